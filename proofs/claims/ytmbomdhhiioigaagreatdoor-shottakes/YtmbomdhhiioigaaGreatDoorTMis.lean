/-
  tree: misfit.
-/
import Derived.Test.YtmbomdhhiioigaaGreatDoorTRead
namespace Go.Proofs.YtmbomdhhiioigaaGreatDoor
open Go.RowKit Go.Maps Go.WideShapes
set_option linter.unusedVariables false
set_option linter.unusedSimpArgs false
attribute [local go_sem ↓] Go.wp_at_zero Go.wp_at_succ

/-- Why an op is refused for the node that it is of. -/
def misC (k ov nv : Int) (kids : List ByteArray) : Int :=
  if (k = 2 ∨ k = 3 ∨ k = 4) ∧ ov ≠ -1 ∧ ov ≠ nv then 42 else
  if k = 3 ∧ kids ≠ [] then 43 else
  if k = 2 ∧ 2147483647 ≤ nv then 46 else 0
set_option maxHeartbeats 8000000 in
set_option maxRecDepth 100000 in
theorem mis_2m (base rb mb n : Nat) (D : DataW Value) (T : List Nd) (s st : Int) (chV : Value) (cn : Nat) (cs : List Value) (p d : ByteArray) (f : Int) (np nd : ByteArray) (nv nm nc no nk : Int) (w : World) (hg : GroundT w)
    (hR : ReqAt w base rb mb n D s st chV cn cs) (hr : Rep D T) (hs : Srt T) (hl : Sml T) (hn : T.length ≤ 1000) (h3 : nv < 2147483647) :
    Calls Tryz.prog 43 #[.pointer (some ⟨rb, 0, none⟩), opV 2 p d (-1) f, fuV np nd nv nm nc no nk] w fun e w' => e = .returned (.int .i64 0) ∧ Below w.heap.size w w' := by
  have n0 := hg.need 2 0 false rfl
  have n1 := hg.need 2 1 false rfl
  have n2 := hg.need 2 2 true rfl
  have n3 := hg.need 2 3 true rfl
  have n4 := hg.need 2 4 false rfl
  have n5 := hg.need 2 5 true rfl
  simp only [Nat.reduceMul, Nat.reduceAdd] at n0 n1 n2 n3 n4 n5
  have hlt := hg.needLt
  have HR : Hid _ := hR
  have hrl := hR.lt.1
  have e1 : ((-1 : Int) == -1) = true := rfl
  have e2 : ((-1 : Int) != -1) = false := rfl
  have h4 : ¬ (2147483647 : Int) ≤ nv := by omega
  clear hg hR hr hs hl hn
  go_enter Tryz.func43, Tryz.ntmps43
  go_upto_region 4 with fail
  obtain ⟨w3, hw3⟩ : ∃ x, ((w.alloc (.cells #[.int .i64 2, .string p, .string d, .int .i64 (-1), .int .i64 f] 83)).alloc (.cells #[.string np, .string nd, .int .i64 nv, .int .i64 nm, .int .i64 nc, .int .i64 no, .int .i64 nk] 64)).alloc (.cells #[.bool false, .bool false, .bool true, .bool true, .bool false, .bool true] 108) = x := ⟨_, rfl⟩
  obtain ⟨ob, hob⟩ : ∃ x, w.heap.size = x := ⟨_, rfl⟩
  rw [hw3]
  have HB3 : Hid (Below w.heap.size w w3) := by rw [← hw3]; exact (((Below.refl _ _).alloc (Nat.le_refl _) _).alloc (by simp) _).alloc (by simp; omega) _
  have HF3 : Hid (w3.heap[w.heap.size + 1]? = some (.cells #[.string np, .string nd, .int .i64 nv, .int .i64 nm, .int .i64 nc, .int .i64 no, .int .i64 nk] 64 (0, 0))) := by rw [← hw3]; exact new_old (heap_alloc2_new _ _ _) _
  have HE3 : Hid (w3.heap[w.heap.size + 1 + 1]? = some (.cells #[.bool false, .bool false, .bool true, .bool true, .bool false, .bool true] 108 (0, 0))) := by rw [← hw3]; exact alloc3_new _ _ _ _
  clear hw3 hob n0 n1 n2 n3 n4 n5 hlt
  obtain ⟨a0, a1, a2, a3, a4, a5, a6⟩ := cells_7 HF3.out
  obtain ⟨m0, m1, m2, m3, m4, m5⟩ := cells_6 HE3.out
  go_region
  go_wp2_with fail
  go_ret
  exact ⟨rfl, below_drewN HB3.out _⟩
set_option maxHeartbeats 8000000 in
set_option maxRecDepth 100000 in
theorem mis_2mn (base rb mb n : Nat) (D : DataW Value) (T : List Nd) (s st : Int) (chV : Value) (cn : Nat) (cs : List Value) (p d : ByteArray) (f : Int) (np nd : ByteArray) (nv nm nc no nk : Int) (w : World) (hg : GroundT w)
    (hR : ReqAt w base rb mb n D s st chV cn cs) (hr : Rep D T) (hs : Srt T) (hl : Sml T) (hn : T.length ≤ 1000) (h3 : 2147483647 ≤ nv) :
    Calls Tryz.prog 43 #[.pointer (some ⟨rb, 0, none⟩), opV 2 p d (-1) f, fuV np nd nv nm nc no nk] w fun e w' => e = .returned (.int .i64 46) ∧ Below w.heap.size w w' := by
  have n0 := hg.need 2 0 false rfl
  have n1 := hg.need 2 1 false rfl
  have n2 := hg.need 2 2 true rfl
  have n3 := hg.need 2 3 true rfl
  have n4 := hg.need 2 4 false rfl
  have n5 := hg.need 2 5 true rfl
  simp only [Nat.reduceMul, Nat.reduceAdd] at n0 n1 n2 n3 n4 n5
  have hlt := hg.needLt
  have HR : Hid _ := hR
  have hrl := hR.lt.1
  have e1 : ((-1 : Int) == -1) = true := rfl
  have e2 : ((-1 : Int) != -1) = false := rfl
  have h4 : (2147483647 : Int) ≤ nv := by omega
  clear hg hR hr hs hl hn
  go_enter Tryz.func43, Tryz.ntmps43
  go_upto_region 4 with fail
  obtain ⟨w3, hw3⟩ : ∃ x, ((w.alloc (.cells #[.int .i64 2, .string p, .string d, .int .i64 (-1), .int .i64 f] 83)).alloc (.cells #[.string np, .string nd, .int .i64 nv, .int .i64 nm, .int .i64 nc, .int .i64 no, .int .i64 nk] 64)).alloc (.cells #[.bool false, .bool false, .bool true, .bool true, .bool false, .bool true] 108) = x := ⟨_, rfl⟩
  obtain ⟨ob, hob⟩ : ∃ x, w.heap.size = x := ⟨_, rfl⟩
  rw [hw3]
  have HB3 : Hid (Below w.heap.size w w3) := by rw [← hw3]; exact (((Below.refl _ _).alloc (Nat.le_refl _) _).alloc (by simp) _).alloc (by simp; omega) _
  have HF3 : Hid (w3.heap[w.heap.size + 1]? = some (.cells #[.string np, .string nd, .int .i64 nv, .int .i64 nm, .int .i64 nc, .int .i64 no, .int .i64 nk] 64 (0, 0))) := by rw [← hw3]; exact new_old (heap_alloc2_new _ _ _) _
  have HE3 : Hid (w3.heap[w.heap.size + 1 + 1]? = some (.cells #[.bool false, .bool false, .bool true, .bool true, .bool false, .bool true] 108 (0, 0))) := by rw [← hw3]; exact alloc3_new _ _ _ _
  clear hw3 hob n0 n1 n2 n3 n4 n5 hlt
  obtain ⟨a0, a1, a2, a3, a4, a5, a6⟩ := cells_7 HF3.out
  obtain ⟨m0, m1, m2, m3, m4, m5⟩ := cells_6 HE3.out
  go_region
  go_wp2_with fail
  go_ret
  exact ⟨rfl, below_drewN HB3.out _⟩
set_option maxHeartbeats 8000000 in
set_option maxRecDepth 100000 in
theorem mis_2e (base rb mb n : Nat) (D : DataW Value) (T : List Nd) (s st : Int) (chV : Value) (cn : Nat) (cs : List Value) (p d : ByteArray) (f : Int) (np nd : ByteArray) (nv nm nc no nk : Int) (w : World) (hg : GroundT w)
    (hR : ReqAt w base rb mb n D s st chV cn cs) (hr : Rep D T) (hs : Srt T) (hl : Sml T) (hn : T.length ≤ 1000) (h1 : nv ≠ -1) (h3 : nv < 2147483647) :
    Calls Tryz.prog 43 #[.pointer (some ⟨rb, 0, none⟩), opV 2 p d nv f, fuV np nd nv nm nc no nk] w fun e w' => e = .returned (.int .i64 0) ∧ Below w.heap.size w w' := by
  have n0 := hg.need 2 0 false rfl
  have n1 := hg.need 2 1 false rfl
  have n2 := hg.need 2 2 true rfl
  have n3 := hg.need 2 3 true rfl
  have n4 := hg.need 2 4 false rfl
  have n5 := hg.need 2 5 true rfl
  simp only [Nat.reduceMul, Nat.reduceAdd] at n0 n1 n2 n3 n4 n5
  have hlt := hg.needLt
  have HR : Hid _ := hR
  have hrl := hR.lt.1
  have e1 : (nv == -1) = false := by simpa using h1
  have e2 : (nv != -1) = true := by simpa using h1
  have e3 : (nv == nv) = true := by simp
  have e4 : (nv != nv) = false := by simp
  have h4 : ¬ (2147483647 : Int) ≤ nv := by omega
  clear hg hR hr hs hl hn
  go_enter Tryz.func43, Tryz.ntmps43
  go_upto_region 4 with fail
  obtain ⟨w3, hw3⟩ : ∃ x, ((w.alloc (.cells #[.int .i64 2, .string p, .string d, .int .i64 nv, .int .i64 f] 83)).alloc (.cells #[.string np, .string nd, .int .i64 nv, .int .i64 nm, .int .i64 nc, .int .i64 no, .int .i64 nk] 64)).alloc (.cells #[.bool false, .bool false, .bool true, .bool true, .bool false, .bool true] 108) = x := ⟨_, rfl⟩
  obtain ⟨ob, hob⟩ : ∃ x, w.heap.size = x := ⟨_, rfl⟩
  rw [hw3]
  have HB3 : Hid (Below w.heap.size w w3) := by rw [← hw3]; exact (((Below.refl _ _).alloc (Nat.le_refl _) _).alloc (by simp) _).alloc (by simp; omega) _
  have HF3 : Hid (w3.heap[w.heap.size + 1]? = some (.cells #[.string np, .string nd, .int .i64 nv, .int .i64 nm, .int .i64 nc, .int .i64 no, .int .i64 nk] 64 (0, 0))) := by rw [← hw3]; exact new_old (heap_alloc2_new _ _ _) _
  have HE3 : Hid (w3.heap[w.heap.size + 1 + 1]? = some (.cells #[.bool false, .bool false, .bool true, .bool true, .bool false, .bool true] 108 (0, 0))) := by rw [← hw3]; exact alloc3_new _ _ _ _
  clear hw3 hob n0 n1 n2 n3 n4 n5 hlt
  obtain ⟨a0, a1, a2, a3, a4, a5, a6⟩ := cells_7 HF3.out
  obtain ⟨m0, m1, m2, m3, m4, m5⟩ := cells_6 HE3.out
  go_region
  go_wp2_with fail
  go_ret
  exact ⟨rfl, below_drewN HB3.out _⟩
set_option maxHeartbeats 8000000 in
set_option maxRecDepth 100000 in
theorem mis_2en (base rb mb n : Nat) (D : DataW Value) (T : List Nd) (s st : Int) (chV : Value) (cn : Nat) (cs : List Value) (p d : ByteArray) (f : Int) (np nd : ByteArray) (nv nm nc no nk : Int) (w : World) (hg : GroundT w)
    (hR : ReqAt w base rb mb n D s st chV cn cs) (hr : Rep D T) (hs : Srt T) (hl : Sml T) (hn : T.length ≤ 1000) (h1 : nv ≠ -1) (h3 : 2147483647 ≤ nv) :
    Calls Tryz.prog 43 #[.pointer (some ⟨rb, 0, none⟩), opV 2 p d nv f, fuV np nd nv nm nc no nk] w fun e w' => e = .returned (.int .i64 46) ∧ Below w.heap.size w w' := by
  have n0 := hg.need 2 0 false rfl
  have n1 := hg.need 2 1 false rfl
  have n2 := hg.need 2 2 true rfl
  have n3 := hg.need 2 3 true rfl
  have n4 := hg.need 2 4 false rfl
  have n5 := hg.need 2 5 true rfl
  simp only [Nat.reduceMul, Nat.reduceAdd] at n0 n1 n2 n3 n4 n5
  have hlt := hg.needLt
  have HR : Hid _ := hR
  have hrl := hR.lt.1
  have e1 : (nv == -1) = false := by simpa using h1
  have e2 : (nv != -1) = true := by simpa using h1
  have e3 : (nv == nv) = true := by simp
  have e4 : (nv != nv) = false := by simp
  have h4 : (2147483647 : Int) ≤ nv := by omega
  clear hg hR hr hs hl hn
  go_enter Tryz.func43, Tryz.ntmps43
  go_upto_region 4 with fail
  obtain ⟨w3, hw3⟩ : ∃ x, ((w.alloc (.cells #[.int .i64 2, .string p, .string d, .int .i64 nv, .int .i64 f] 83)).alloc (.cells #[.string np, .string nd, .int .i64 nv, .int .i64 nm, .int .i64 nc, .int .i64 no, .int .i64 nk] 64)).alloc (.cells #[.bool false, .bool false, .bool true, .bool true, .bool false, .bool true] 108) = x := ⟨_, rfl⟩
  obtain ⟨ob, hob⟩ : ∃ x, w.heap.size = x := ⟨_, rfl⟩
  rw [hw3]
  have HB3 : Hid (Below w.heap.size w w3) := by rw [← hw3]; exact (((Below.refl _ _).alloc (Nat.le_refl _) _).alloc (by simp) _).alloc (by simp; omega) _
  have HF3 : Hid (w3.heap[w.heap.size + 1]? = some (.cells #[.string np, .string nd, .int .i64 nv, .int .i64 nm, .int .i64 nc, .int .i64 no, .int .i64 nk] 64 (0, 0))) := by rw [← hw3]; exact new_old (heap_alloc2_new _ _ _) _
  have HE3 : Hid (w3.heap[w.heap.size + 1 + 1]? = some (.cells #[.bool false, .bool false, .bool true, .bool true, .bool false, .bool true] 108 (0, 0))) := by rw [← hw3]; exact alloc3_new _ _ _ _
  clear hw3 hob n0 n1 n2 n3 n4 n5 hlt
  obtain ⟨a0, a1, a2, a3, a4, a5, a6⟩ := cells_7 HF3.out
  obtain ⟨m0, m1, m2, m3, m4, m5⟩ := cells_6 HE3.out
  go_region
  go_wp2_with fail
  go_ret
  exact ⟨rfl, below_drewN HB3.out _⟩
set_option maxHeartbeats 8000000 in
set_option maxRecDepth 100000 in
theorem mis_2x (base rb mb n : Nat) (D : DataW Value) (T : List Nd) (s st : Int) (chV : Value) (cn : Nat) (cs : List Value) (p d : ByteArray) (ov f : Int) (np nd : ByteArray) (nv nm nc no nk : Int) (w : World) (hg : GroundT w)
    (hR : ReqAt w base rb mb n D s st chV cn cs) (hr : Rep D T) (hs : Srt T) (hl : Sml T) (hn : T.length ≤ 1000) (h1 : ov ≠ -1) (h2 : ov ≠ nv) :
    Calls Tryz.prog 43 #[.pointer (some ⟨rb, 0, none⟩), opV 2 p d ov f, fuV np nd nv nm nc no nk] w fun e w' => e = .returned (.int .i64 42) ∧ Below w.heap.size w w' := by
  have n0 := hg.need 2 0 false rfl
  have n1 := hg.need 2 1 false rfl
  have n2 := hg.need 2 2 true rfl
  have n3 := hg.need 2 3 true rfl
  have n4 := hg.need 2 4 false rfl
  have n5 := hg.need 2 5 true rfl
  simp only [Nat.reduceMul, Nat.reduceAdd] at n0 n1 n2 n3 n4 n5
  have hlt := hg.needLt
  have HR : Hid _ := hR
  have hrl := hR.lt.1
  have e1 : (ov == -1) = false := by simpa using h1
  have e2 : (ov != -1) = true := by simpa using h1
  have e3 : (ov == nv) = false := by simpa using h2
  have e4 : (ov != nv) = true := by simpa using h2
  clear hg hR hr hs hl hn
  go_enter Tryz.func43, Tryz.ntmps43
  go_wp2_with fail
  go_ret
  exact ⟨rfl, (((Below.refl _ _).alloc (Nat.le_refl _) _).alloc (by simp) _).alloc (by simp; omega) _⟩
set_option maxHeartbeats 8000000 in
set_option maxRecDepth 100000 in
theorem mis_3m (base rb mb n : Nat) (D : DataW Value) (T : List Nd) (s st : Int) (chV : Value) (cn : Nat) (cs : List Value) (p d : ByteArray) (f : Int) (np nd : ByteArray) (nv nm nc no nk : Int) (w : World) (hg : GroundT w)
    (hR : ReqAt w base rb mb n D s st chV cn cs) (hr : Rep D T) (hs : Srt T) (hl : Sml T) (hn : T.length ≤ 1000) (h3 : kidsM T np = []) :
    Calls Tryz.prog 43 #[.pointer (some ⟨rb, 0, none⟩), opV 3 p d (-1) f, fuV np nd nv nm nc no nk] w fun e w' => e = .returned (.int .i64 0) ∧ Below w.heap.size w w' := by
  have n0 := hg.need 3 0 false rfl
  have n1 := hg.need 3 1 true rfl
  have n2 := hg.need 3 2 false rfl
  have n3 := hg.need 3 3 true rfl
  have n4 := hg.need 3 4 true rfl
  have n5 := hg.need 3 5 false rfl
  simp only [Nat.reduceMul, Nat.reduceAdd] at n0 n1 n2 n3 n4 n5
  have hlt := hg.needLt
  have HR : Hid _ := hR
  have hrl := hR.lt.1
  have e1 : ((-1 : Int) == -1) = true := rfl
  have e2 : ((-1 : Int) != -1) = false := rfl
  have HKI : Hid (∀ W, Below w.heap.size w W → _) := fun W hb => kids_any mb n D T np W (hg.toGround.below hb) (hR.below hb).map hr hs hl hn
  obtain ⟨KL, hKL⟩ : ∃ KL, kidsM T np = KL := ⟨_, rfl⟩
  rw [hKL] at HKI h3
  have hk0 : KL.length = 0 := by simpa using h3
  clear hKL h3
  clear hg hR hr hs hl hn
  go_enter Tryz.func43, Tryz.ntmps43
  go_upto_region 4 with fail
  obtain ⟨w3, hw3⟩ : ∃ x, ((w.alloc (.cells #[.int .i64 3, .string p, .string d, .int .i64 (-1), .int .i64 f] 83)).alloc (.cells #[.string np, .string nd, .int .i64 nv, .int .i64 nm, .int .i64 nc, .int .i64 no, .int .i64 nk] 64)).alloc (.cells #[.bool false, .bool true, .bool false, .bool true, .bool true, .bool false] 108) = x := ⟨_, rfl⟩
  obtain ⟨ob, hob⟩ : ∃ x, w.heap.size = x := ⟨_, rfl⟩
  rw [hw3]
  have HB3 : Hid (Below w.heap.size w w3) := by rw [← hw3]; exact (((Below.refl _ _).alloc (Nat.le_refl _) _).alloc (by simp) _).alloc (by simp; omega) _
  have HF3 : Hid (w3.heap[w.heap.size + 1]? = some (.cells #[.string np, .string nd, .int .i64 nv, .int .i64 nm, .int .i64 nc, .int .i64 no, .int .i64 nk] 64 (0, 0))) := by rw [← hw3]; exact new_old (heap_alloc2_new _ _ _) _
  have HE3 : Hid (w3.heap[w.heap.size + 1 + 1]? = some (.cells #[.bool false, .bool true, .bool false, .bool true, .bool true, .bool false] 108 (0, 0))) := by rw [← hw3]; exact alloc3_new _ _ _ _
  clear hw3 hob n0 n1 n2 n3 n4 n5 hlt
  obtain ⟨a0, a1, a2, a3, a4, a5, a6⟩ := cells_7 HF3.out
  obtain ⟨m0, m1, m2, m3, m4, m5⟩ := cells_6 HE3.out
  have r2 := (cells_4 (HR.out.below HB3.out).box).2.2.1
  have HKJ : Hid _ := HKI.out w3.drew (below_drew HB3.out)
  have hdl : decide ((0 : Int) < (KL.length : Int)) = false := decide_eq_false (by omega)
  have hdi : ¬ (0 : Int) < (KL.length : Int) := by omega
  go_region_held3 (fun w' => w'.cell? ⟨w.heap.size + 1 + 1, 4, none⟩ = some (.bool true) ∧ w'.cell? ⟨rb, 2, none⟩ = some (.map (some mb)) ∧ w'.cell? ⟨w.heap.size + 1, 0, none⟩ = some (.string np)) (first | (simp only [World.cell?_drew, r2, a0, m4, and_self]) | go_keep)
    (first
      | (go_at_call 72; refine Calls.mono HKJ.out ?_; rintro e w4 ⟨kv, rfl, hrow, hb4'⟩
         have hb4 := of_drew hb4'
         have HB4 : Hid (Below w.heap.size w w4) := trans2 HB3.out hb4
         have HF4 : Hid _ := kept_block hb4 HF3.out
         have HE4 : Hid _ := kept_block hb4 HE3.out
         obtain ⟨ka, kc, rfl⟩ : ∃ a c, kv = .slice a KL.length c := by
           rcases hrow.2 with ⟨rfl, h0⟩ | ⟨g, cap, cur, rfl, _⟩
           · exact ⟨_, _, by rw [h0]⟩
           · exact ⟨_, _, rfl⟩
         clear hb4 hb4' hrow a0 a1 a2 a3 a4 a5 a6 m0 m1 m2 m3 m4 m5 r2
         obtain ⟨a0, a1, a2, a3, a4, a5, a6⟩ := cells_7 HF4.out
         obtain ⟨m0, m1, m2, m3, m4, m5⟩ := cells_6 HE4.out
         have r2 := (cells_4 (HR.out.below HB4.out).box).2.2.1))
  go_wp2_with fail
  go_ret
  exact ⟨rfl, HB4.out⟩
set_option maxHeartbeats 8000000 in
set_option maxRecDepth 100000 in
theorem mis_3mn (base rb mb n : Nat) (D : DataW Value) (T : List Nd) (s st : Int) (chV : Value) (cn : Nat) (cs : List Value) (p d : ByteArray) (f : Int) (np nd : ByteArray) (nv nm nc no nk : Int) (w : World) (hg : GroundT w)
    (hR : ReqAt w base rb mb n D s st chV cn cs) (hr : Rep D T) (hs : Srt T) (hl : Sml T) (hn : T.length ≤ 1000) (h3 : kidsM T np ≠ []) :
    Calls Tryz.prog 43 #[.pointer (some ⟨rb, 0, none⟩), opV 3 p d (-1) f, fuV np nd nv nm nc no nk] w fun e w' => e = .returned (.int .i64 43) ∧ Below w.heap.size w w' := by
  have n0 := hg.need 3 0 false rfl
  have n1 := hg.need 3 1 true rfl
  have n2 := hg.need 3 2 false rfl
  have n3 := hg.need 3 3 true rfl
  have n4 := hg.need 3 4 true rfl
  have n5 := hg.need 3 5 false rfl
  simp only [Nat.reduceMul, Nat.reduceAdd] at n0 n1 n2 n3 n4 n5
  have hlt := hg.needLt
  have HR : Hid _ := hR
  have hrl := hR.lt.1
  have e1 : ((-1 : Int) == -1) = true := rfl
  have e2 : ((-1 : Int) != -1) = false := rfl
  have HKI : Hid (∀ W, Below w.heap.size w W → _) := fun W hb => kids_any mb n D T np W (hg.toGround.below hb) (hR.below hb).map hr hs hl hn
  obtain ⟨KL, hKL⟩ : ∃ KL, kidsM T np = KL := ⟨_, rfl⟩
  rw [hKL] at HKI h3
  have hk0 : KL.length ≠ 0 := by simpa using h3
  clear hKL h3
  clear hg hR hr hs hl hn
  go_enter Tryz.func43, Tryz.ntmps43
  go_upto_region 4 with fail
  obtain ⟨w3, hw3⟩ : ∃ x, ((w.alloc (.cells #[.int .i64 3, .string p, .string d, .int .i64 (-1), .int .i64 f] 83)).alloc (.cells #[.string np, .string nd, .int .i64 nv, .int .i64 nm, .int .i64 nc, .int .i64 no, .int .i64 nk] 64)).alloc (.cells #[.bool false, .bool true, .bool false, .bool true, .bool true, .bool false] 108) = x := ⟨_, rfl⟩
  obtain ⟨ob, hob⟩ : ∃ x, w.heap.size = x := ⟨_, rfl⟩
  rw [hw3]
  have HB3 : Hid (Below w.heap.size w w3) := by rw [← hw3]; exact (((Below.refl _ _).alloc (Nat.le_refl _) _).alloc (by simp) _).alloc (by simp; omega) _
  have HF3 : Hid (w3.heap[w.heap.size + 1]? = some (.cells #[.string np, .string nd, .int .i64 nv, .int .i64 nm, .int .i64 nc, .int .i64 no, .int .i64 nk] 64 (0, 0))) := by rw [← hw3]; exact new_old (heap_alloc2_new _ _ _) _
  have HE3 : Hid (w3.heap[w.heap.size + 1 + 1]? = some (.cells #[.bool false, .bool true, .bool false, .bool true, .bool true, .bool false] 108 (0, 0))) := by rw [← hw3]; exact alloc3_new _ _ _ _
  clear hw3 hob n0 n1 n2 n3 n4 n5 hlt
  obtain ⟨a0, a1, a2, a3, a4, a5, a6⟩ := cells_7 HF3.out
  obtain ⟨m0, m1, m2, m3, m4, m5⟩ := cells_6 HE3.out
  have r2 := (cells_4 (HR.out.below HB3.out).box).2.2.1
  have HKJ : Hid _ := HKI.out w3.drew (below_drew HB3.out)
  have hdl : decide ((0 : Int) < (KL.length : Int)) = true := decide_eq_true (by omega)
  have hdi : (0 : Int) < (KL.length : Int) := by omega
  go_region_held3 (fun w' => w'.cell? ⟨w.heap.size + 1 + 1, 4, none⟩ = some (.bool true) ∧ w'.cell? ⟨rb, 2, none⟩ = some (.map (some mb)) ∧ w'.cell? ⟨w.heap.size + 1, 0, none⟩ = some (.string np)) (first | (simp only [World.cell?_drew, r2, a0, m4, and_self]) | go_keep)
    (first
      | (go_at_call 72; refine Calls.mono HKJ.out ?_; rintro e w4 ⟨kv, rfl, hrow, hb4'⟩
         have hb4 := of_drew hb4'
         have HB4 : Hid (Below w.heap.size w w4) := trans2 HB3.out hb4
         have HF4 : Hid _ := kept_block hb4 HF3.out
         have HE4 : Hid _ := kept_block hb4 HE3.out
         obtain ⟨ka, kc, rfl⟩ : ∃ a c, kv = .slice a KL.length c := by
           rcases hrow.2 with ⟨rfl, h0⟩ | ⟨g, cap, cur, rfl, _⟩
           · exact ⟨_, _, by rw [h0]⟩
           · exact ⟨_, _, rfl⟩
         clear hb4 hb4' hrow a0 a1 a2 a3 a4 a5 a6 m0 m1 m2 m3 m4 m5 r2
         obtain ⟨a0, a1, a2, a3, a4, a5, a6⟩ := cells_7 HF4.out
         obtain ⟨m0, m1, m2, m3, m4, m5⟩ := cells_6 HE4.out
         have r2 := (cells_4 (HR.out.below HB4.out).box).2.2.1))
  go_wp2_with fail
  go_ret
  exact ⟨rfl, HB4.out⟩
set_option maxHeartbeats 8000000 in
set_option maxRecDepth 100000 in
theorem mis_3e (base rb mb n : Nat) (D : DataW Value) (T : List Nd) (s st : Int) (chV : Value) (cn : Nat) (cs : List Value) (p d : ByteArray) (f : Int) (np nd : ByteArray) (nv nm nc no nk : Int) (w : World) (hg : GroundT w)
    (hR : ReqAt w base rb mb n D s st chV cn cs) (hr : Rep D T) (hs : Srt T) (hl : Sml T) (hn : T.length ≤ 1000) (h1 : nv ≠ -1) (h3 : kidsM T np = []) :
    Calls Tryz.prog 43 #[.pointer (some ⟨rb, 0, none⟩), opV 3 p d nv f, fuV np nd nv nm nc no nk] w fun e w' => e = .returned (.int .i64 0) ∧ Below w.heap.size w w' := by
  have n0 := hg.need 3 0 false rfl
  have n1 := hg.need 3 1 true rfl
  have n2 := hg.need 3 2 false rfl
  have n3 := hg.need 3 3 true rfl
  have n4 := hg.need 3 4 true rfl
  have n5 := hg.need 3 5 false rfl
  simp only [Nat.reduceMul, Nat.reduceAdd] at n0 n1 n2 n3 n4 n5
  have hlt := hg.needLt
  have HR : Hid _ := hR
  have hrl := hR.lt.1
  have e1 : (nv == -1) = false := by simpa using h1
  have e2 : (nv != -1) = true := by simpa using h1
  have e3 : (nv == nv) = true := by simp
  have e4 : (nv != nv) = false := by simp
  have HKI : Hid (∀ W, Below w.heap.size w W → _) := fun W hb => kids_any mb n D T np W (hg.toGround.below hb) (hR.below hb).map hr hs hl hn
  obtain ⟨KL, hKL⟩ : ∃ KL, kidsM T np = KL := ⟨_, rfl⟩
  rw [hKL] at HKI h3
  have hk0 : KL.length = 0 := by simpa using h3
  clear hKL h3
  clear hg hR hr hs hl hn
  go_enter Tryz.func43, Tryz.ntmps43
  go_upto_region 4 with fail
  obtain ⟨w3, hw3⟩ : ∃ x, ((w.alloc (.cells #[.int .i64 3, .string p, .string d, .int .i64 nv, .int .i64 f] 83)).alloc (.cells #[.string np, .string nd, .int .i64 nv, .int .i64 nm, .int .i64 nc, .int .i64 no, .int .i64 nk] 64)).alloc (.cells #[.bool false, .bool true, .bool false, .bool true, .bool true, .bool false] 108) = x := ⟨_, rfl⟩
  obtain ⟨ob, hob⟩ : ∃ x, w.heap.size = x := ⟨_, rfl⟩
  rw [hw3]
  have HB3 : Hid (Below w.heap.size w w3) := by rw [← hw3]; exact (((Below.refl _ _).alloc (Nat.le_refl _) _).alloc (by simp) _).alloc (by simp; omega) _
  have HF3 : Hid (w3.heap[w.heap.size + 1]? = some (.cells #[.string np, .string nd, .int .i64 nv, .int .i64 nm, .int .i64 nc, .int .i64 no, .int .i64 nk] 64 (0, 0))) := by rw [← hw3]; exact new_old (heap_alloc2_new _ _ _) _
  have HE3 : Hid (w3.heap[w.heap.size + 1 + 1]? = some (.cells #[.bool false, .bool true, .bool false, .bool true, .bool true, .bool false] 108 (0, 0))) := by rw [← hw3]; exact alloc3_new _ _ _ _
  clear hw3 hob n0 n1 n2 n3 n4 n5 hlt
  obtain ⟨a0, a1, a2, a3, a4, a5, a6⟩ := cells_7 HF3.out
  obtain ⟨m0, m1, m2, m3, m4, m5⟩ := cells_6 HE3.out
  have r2 := (cells_4 (HR.out.below HB3.out).box).2.2.1
  have HKJ : Hid _ := HKI.out w3.drew (below_drew HB3.out)
  have hdl : decide ((0 : Int) < (KL.length : Int)) = false := decide_eq_false (by omega)
  have hdi : ¬ (0 : Int) < (KL.length : Int) := by omega
  go_region_held3 (fun w' => w'.cell? ⟨w.heap.size + 1 + 1, 4, none⟩ = some (.bool true) ∧ w'.cell? ⟨rb, 2, none⟩ = some (.map (some mb)) ∧ w'.cell? ⟨w.heap.size + 1, 0, none⟩ = some (.string np)) (first | (simp only [World.cell?_drew, r2, a0, m4, and_self]) | go_keep)
    (first
      | (go_at_call 72; refine Calls.mono HKJ.out ?_; rintro e w4 ⟨kv, rfl, hrow, hb4'⟩
         have hb4 := of_drew hb4'
         have HB4 : Hid (Below w.heap.size w w4) := trans2 HB3.out hb4
         have HF4 : Hid _ := kept_block hb4 HF3.out
         have HE4 : Hid _ := kept_block hb4 HE3.out
         obtain ⟨ka, kc, rfl⟩ : ∃ a c, kv = .slice a KL.length c := by
           rcases hrow.2 with ⟨rfl, h0⟩ | ⟨g, cap, cur, rfl, _⟩
           · exact ⟨_, _, by rw [h0]⟩
           · exact ⟨_, _, rfl⟩
         clear hb4 hb4' hrow a0 a1 a2 a3 a4 a5 a6 m0 m1 m2 m3 m4 m5 r2
         obtain ⟨a0, a1, a2, a3, a4, a5, a6⟩ := cells_7 HF4.out
         obtain ⟨m0, m1, m2, m3, m4, m5⟩ := cells_6 HE4.out
         have r2 := (cells_4 (HR.out.below HB4.out).box).2.2.1))
  go_wp2_with fail
  go_ret
  exact ⟨rfl, HB4.out⟩
set_option maxHeartbeats 8000000 in
set_option maxRecDepth 100000 in
theorem mis_3en (base rb mb n : Nat) (D : DataW Value) (T : List Nd) (s st : Int) (chV : Value) (cn : Nat) (cs : List Value) (p d : ByteArray) (f : Int) (np nd : ByteArray) (nv nm nc no nk : Int) (w : World) (hg : GroundT w)
    (hR : ReqAt w base rb mb n D s st chV cn cs) (hr : Rep D T) (hs : Srt T) (hl : Sml T) (hn : T.length ≤ 1000) (h1 : nv ≠ -1) (h3 : kidsM T np ≠ []) :
    Calls Tryz.prog 43 #[.pointer (some ⟨rb, 0, none⟩), opV 3 p d nv f, fuV np nd nv nm nc no nk] w fun e w' => e = .returned (.int .i64 43) ∧ Below w.heap.size w w' := by
  have n0 := hg.need 3 0 false rfl
  have n1 := hg.need 3 1 true rfl
  have n2 := hg.need 3 2 false rfl
  have n3 := hg.need 3 3 true rfl
  have n4 := hg.need 3 4 true rfl
  have n5 := hg.need 3 5 false rfl
  simp only [Nat.reduceMul, Nat.reduceAdd] at n0 n1 n2 n3 n4 n5
  have hlt := hg.needLt
  have HR : Hid _ := hR
  have hrl := hR.lt.1
  have e1 : (nv == -1) = false := by simpa using h1
  have e2 : (nv != -1) = true := by simpa using h1
  have e3 : (nv == nv) = true := by simp
  have e4 : (nv != nv) = false := by simp
  have HKI : Hid (∀ W, Below w.heap.size w W → _) := fun W hb => kids_any mb n D T np W (hg.toGround.below hb) (hR.below hb).map hr hs hl hn
  obtain ⟨KL, hKL⟩ : ∃ KL, kidsM T np = KL := ⟨_, rfl⟩
  rw [hKL] at HKI h3
  have hk0 : KL.length ≠ 0 := by simpa using h3
  clear hKL h3
  clear hg hR hr hs hl hn
  go_enter Tryz.func43, Tryz.ntmps43
  go_upto_region 4 with fail
  obtain ⟨w3, hw3⟩ : ∃ x, ((w.alloc (.cells #[.int .i64 3, .string p, .string d, .int .i64 nv, .int .i64 f] 83)).alloc (.cells #[.string np, .string nd, .int .i64 nv, .int .i64 nm, .int .i64 nc, .int .i64 no, .int .i64 nk] 64)).alloc (.cells #[.bool false, .bool true, .bool false, .bool true, .bool true, .bool false] 108) = x := ⟨_, rfl⟩
  obtain ⟨ob, hob⟩ : ∃ x, w.heap.size = x := ⟨_, rfl⟩
  rw [hw3]
  have HB3 : Hid (Below w.heap.size w w3) := by rw [← hw3]; exact (((Below.refl _ _).alloc (Nat.le_refl _) _).alloc (by simp) _).alloc (by simp; omega) _
  have HF3 : Hid (w3.heap[w.heap.size + 1]? = some (.cells #[.string np, .string nd, .int .i64 nv, .int .i64 nm, .int .i64 nc, .int .i64 no, .int .i64 nk] 64 (0, 0))) := by rw [← hw3]; exact new_old (heap_alloc2_new _ _ _) _
  have HE3 : Hid (w3.heap[w.heap.size + 1 + 1]? = some (.cells #[.bool false, .bool true, .bool false, .bool true, .bool true, .bool false] 108 (0, 0))) := by rw [← hw3]; exact alloc3_new _ _ _ _
  clear hw3 hob n0 n1 n2 n3 n4 n5 hlt
  obtain ⟨a0, a1, a2, a3, a4, a5, a6⟩ := cells_7 HF3.out
  obtain ⟨m0, m1, m2, m3, m4, m5⟩ := cells_6 HE3.out
  have r2 := (cells_4 (HR.out.below HB3.out).box).2.2.1
  have HKJ : Hid _ := HKI.out w3.drew (below_drew HB3.out)
  have hdl : decide ((0 : Int) < (KL.length : Int)) = true := decide_eq_true (by omega)
  have hdi : (0 : Int) < (KL.length : Int) := by omega
  go_region_held3 (fun w' => w'.cell? ⟨w.heap.size + 1 + 1, 4, none⟩ = some (.bool true) ∧ w'.cell? ⟨rb, 2, none⟩ = some (.map (some mb)) ∧ w'.cell? ⟨w.heap.size + 1, 0, none⟩ = some (.string np)) (first | (simp only [World.cell?_drew, r2, a0, m4, and_self]) | go_keep)
    (first
      | (go_at_call 72; refine Calls.mono HKJ.out ?_; rintro e w4 ⟨kv, rfl, hrow, hb4'⟩
         have hb4 := of_drew hb4'
         have HB4 : Hid (Below w.heap.size w w4) := trans2 HB3.out hb4
         have HF4 : Hid _ := kept_block hb4 HF3.out
         have HE4 : Hid _ := kept_block hb4 HE3.out
         obtain ⟨ka, kc, rfl⟩ : ∃ a c, kv = .slice a KL.length c := by
           rcases hrow.2 with ⟨rfl, h0⟩ | ⟨g, cap, cur, rfl, _⟩
           · exact ⟨_, _, by rw [h0]⟩
           · exact ⟨_, _, rfl⟩
         clear hb4 hb4' hrow a0 a1 a2 a3 a4 a5 a6 m0 m1 m2 m3 m4 m5 r2
         obtain ⟨a0, a1, a2, a3, a4, a5, a6⟩ := cells_7 HF4.out
         obtain ⟨m0, m1, m2, m3, m4, m5⟩ := cells_6 HE4.out
         have r2 := (cells_4 (HR.out.below HB4.out).box).2.2.1))
  go_wp2_with fail
  go_ret
  exact ⟨rfl, HB4.out⟩
set_option maxHeartbeats 8000000 in
set_option maxRecDepth 100000 in
theorem mis_3x (base rb mb n : Nat) (D : DataW Value) (T : List Nd) (s st : Int) (chV : Value) (cn : Nat) (cs : List Value) (p d : ByteArray) (ov f : Int) (np nd : ByteArray) (nv nm nc no nk : Int) (w : World) (hg : GroundT w)
    (hR : ReqAt w base rb mb n D s st chV cn cs) (hr : Rep D T) (hs : Srt T) (hl : Sml T) (hn : T.length ≤ 1000) (h1 : ov ≠ -1) (h2 : ov ≠ nv) :
    Calls Tryz.prog 43 #[.pointer (some ⟨rb, 0, none⟩), opV 3 p d ov f, fuV np nd nv nm nc no nk] w fun e w' => e = .returned (.int .i64 42) ∧ Below w.heap.size w w' := by
  have n0 := hg.need 3 0 false rfl
  have n1 := hg.need 3 1 true rfl
  have n2 := hg.need 3 2 false rfl
  have n3 := hg.need 3 3 true rfl
  have n4 := hg.need 3 4 true rfl
  have n5 := hg.need 3 5 false rfl
  simp only [Nat.reduceMul, Nat.reduceAdd] at n0 n1 n2 n3 n4 n5
  have hlt := hg.needLt
  have HR : Hid _ := hR
  have hrl := hR.lt.1
  have e1 : (ov == -1) = false := by simpa using h1
  have e2 : (ov != -1) = true := by simpa using h1
  have e3 : (ov == nv) = false := by simpa using h2
  have e4 : (ov != nv) = true := by simpa using h2
  clear hg hR hr hs hl hn
  go_enter Tryz.func43, Tryz.ntmps43
  go_wp2_with fail
  go_ret
  exact ⟨rfl, (((Below.refl _ _).alloc (Nat.le_refl _) _).alloc (by simp) _).alloc (by simp; omega) _⟩
set_option maxHeartbeats 8000000 in
set_option maxRecDepth 100000 in
theorem mis_4m (base rb mb n : Nat) (D : DataW Value) (T : List Nd) (s st : Int) (chV : Value) (cn : Nat) (cs : List Value) (p d : ByteArray) (f : Int) (np nd : ByteArray) (nv nm nc no nk : Int) (w : World) (hg : GroundT w)
    (hR : ReqAt w base rb mb n D s st chV cn cs) (hr : Rep D T) (hs : Srt T) (hl : Sml T) (hn : T.length ≤ 1000) :
    Calls Tryz.prog 43 #[.pointer (some ⟨rb, 0, none⟩), opV 4 p d (-1) f, fuV np nd nv nm nc no nk] w fun e w' => e = .returned (.int .i64 0) ∧ Below w.heap.size w w' := by
  have n0 := hg.need 4 0 false rfl
  have n1 := hg.need 4 1 false rfl
  have n2 := hg.need 4 2 false rfl
  have n3 := hg.need 4 3 true rfl
  have n4 := hg.need 4 4 false rfl
  have n5 := hg.need 4 5 false rfl
  simp only [Nat.reduceMul, Nat.reduceAdd] at n0 n1 n2 n3 n4 n5
  have hlt := hg.needLt
  have HR : Hid _ := hR
  have hrl := hR.lt.1
  have e1 : ((-1 : Int) == -1) = true := rfl
  have e2 : ((-1 : Int) != -1) = false := rfl
  clear hg hR hr hs hl hn
  go_enter Tryz.func43, Tryz.ntmps43
  go_upto_region 4 with fail
  obtain ⟨w3, hw3⟩ : ∃ x, ((w.alloc (.cells #[.int .i64 4, .string p, .string d, .int .i64 (-1), .int .i64 f] 83)).alloc (.cells #[.string np, .string nd, .int .i64 nv, .int .i64 nm, .int .i64 nc, .int .i64 no, .int .i64 nk] 64)).alloc (.cells #[.bool false, .bool false, .bool false, .bool true, .bool false, .bool false] 108) = x := ⟨_, rfl⟩
  obtain ⟨ob, hob⟩ : ∃ x, w.heap.size = x := ⟨_, rfl⟩
  rw [hw3]
  have HB3 : Hid (Below w.heap.size w w3) := by rw [← hw3]; exact (((Below.refl _ _).alloc (Nat.le_refl _) _).alloc (by simp) _).alloc (by simp; omega) _
  have HF3 : Hid (w3.heap[w.heap.size + 1]? = some (.cells #[.string np, .string nd, .int .i64 nv, .int .i64 nm, .int .i64 nc, .int .i64 no, .int .i64 nk] 64 (0, 0))) := by rw [← hw3]; exact new_old (heap_alloc2_new _ _ _) _
  have HE3 : Hid (w3.heap[w.heap.size + 1 + 1]? = some (.cells #[.bool false, .bool false, .bool false, .bool true, .bool false, .bool false] 108 (0, 0))) := by rw [← hw3]; exact alloc3_new _ _ _ _
  clear hw3 hob n0 n1 n2 n3 n4 n5 hlt
  obtain ⟨a0, a1, a2, a3, a4, a5, a6⟩ := cells_7 HF3.out
  obtain ⟨m0, m1, m2, m3, m4, m5⟩ := cells_6 HE3.out
  go_region
  go_wp2_with fail
  go_ret
  exact ⟨rfl, below_drewN HB3.out _⟩
set_option maxHeartbeats 8000000 in
set_option maxRecDepth 100000 in
theorem mis_4e (base rb mb n : Nat) (D : DataW Value) (T : List Nd) (s st : Int) (chV : Value) (cn : Nat) (cs : List Value) (p d : ByteArray) (f : Int) (np nd : ByteArray) (nv nm nc no nk : Int) (w : World) (hg : GroundT w)
    (hR : ReqAt w base rb mb n D s st chV cn cs) (hr : Rep D T) (hs : Srt T) (hl : Sml T) (hn : T.length ≤ 1000) (h1 : nv ≠ -1) :
    Calls Tryz.prog 43 #[.pointer (some ⟨rb, 0, none⟩), opV 4 p d nv f, fuV np nd nv nm nc no nk] w fun e w' => e = .returned (.int .i64 0) ∧ Below w.heap.size w w' := by
  have n0 := hg.need 4 0 false rfl
  have n1 := hg.need 4 1 false rfl
  have n2 := hg.need 4 2 false rfl
  have n3 := hg.need 4 3 true rfl
  have n4 := hg.need 4 4 false rfl
  have n5 := hg.need 4 5 false rfl
  simp only [Nat.reduceMul, Nat.reduceAdd] at n0 n1 n2 n3 n4 n5
  have hlt := hg.needLt
  have HR : Hid _ := hR
  have hrl := hR.lt.1
  have e1 : (nv == -1) = false := by simpa using h1
  have e2 : (nv != -1) = true := by simpa using h1
  have e3 : (nv == nv) = true := by simp
  have e4 : (nv != nv) = false := by simp
  clear hg hR hr hs hl hn
  go_enter Tryz.func43, Tryz.ntmps43
  go_upto_region 4 with fail
  obtain ⟨w3, hw3⟩ : ∃ x, ((w.alloc (.cells #[.int .i64 4, .string p, .string d, .int .i64 nv, .int .i64 f] 83)).alloc (.cells #[.string np, .string nd, .int .i64 nv, .int .i64 nm, .int .i64 nc, .int .i64 no, .int .i64 nk] 64)).alloc (.cells #[.bool false, .bool false, .bool false, .bool true, .bool false, .bool false] 108) = x := ⟨_, rfl⟩
  obtain ⟨ob, hob⟩ : ∃ x, w.heap.size = x := ⟨_, rfl⟩
  rw [hw3]
  have HB3 : Hid (Below w.heap.size w w3) := by rw [← hw3]; exact (((Below.refl _ _).alloc (Nat.le_refl _) _).alloc (by simp) _).alloc (by simp; omega) _
  have HF3 : Hid (w3.heap[w.heap.size + 1]? = some (.cells #[.string np, .string nd, .int .i64 nv, .int .i64 nm, .int .i64 nc, .int .i64 no, .int .i64 nk] 64 (0, 0))) := by rw [← hw3]; exact new_old (heap_alloc2_new _ _ _) _
  have HE3 : Hid (w3.heap[w.heap.size + 1 + 1]? = some (.cells #[.bool false, .bool false, .bool false, .bool true, .bool false, .bool false] 108 (0, 0))) := by rw [← hw3]; exact alloc3_new _ _ _ _
  clear hw3 hob n0 n1 n2 n3 n4 n5 hlt
  obtain ⟨a0, a1, a2, a3, a4, a5, a6⟩ := cells_7 HF3.out
  obtain ⟨m0, m1, m2, m3, m4, m5⟩ := cells_6 HE3.out
  go_region
  go_wp2_with fail
  go_ret
  exact ⟨rfl, below_drewN HB3.out _⟩
set_option maxHeartbeats 8000000 in
set_option maxRecDepth 100000 in
theorem mis_4x (base rb mb n : Nat) (D : DataW Value) (T : List Nd) (s st : Int) (chV : Value) (cn : Nat) (cs : List Value) (p d : ByteArray) (ov f : Int) (np nd : ByteArray) (nv nm nc no nk : Int) (w : World) (hg : GroundT w)
    (hR : ReqAt w base rb mb n D s st chV cn cs) (hr : Rep D T) (hs : Srt T) (hl : Sml T) (hn : T.length ≤ 1000) (h1 : ov ≠ -1) (h2 : ov ≠ nv) :
    Calls Tryz.prog 43 #[.pointer (some ⟨rb, 0, none⟩), opV 4 p d ov f, fuV np nd nv nm nc no nk] w fun e w' => e = .returned (.int .i64 42) ∧ Below w.heap.size w w' := by
  have n0 := hg.need 4 0 false rfl
  have n1 := hg.need 4 1 false rfl
  have n2 := hg.need 4 2 false rfl
  have n3 := hg.need 4 3 true rfl
  have n4 := hg.need 4 4 false rfl
  have n5 := hg.need 4 5 false rfl
  simp only [Nat.reduceMul, Nat.reduceAdd] at n0 n1 n2 n3 n4 n5
  have hlt := hg.needLt
  have HR : Hid _ := hR
  have hrl := hR.lt.1
  have e1 : (ov == -1) = false := by simpa using h1
  have e2 : (ov != -1) = true := by simpa using h1
  have e3 : (ov == nv) = false := by simpa using h2
  have e4 : (ov != nv) = true := by simpa using h2
  clear hg hR hr hs hl hn
  go_enter Tryz.func43, Tryz.ntmps43
  go_wp2_with fail
  go_ret
  exact ⟨rfl, (((Below.refl _ _).alloc (Nat.le_refl _) _).alloc (by simp) _).alloc (by simp; omega) _⟩
set_option maxHeartbeats 8000000 in
set_option maxRecDepth 100000 in
theorem mis_5a (base rb mb n : Nat) (D : DataW Value) (T : List Nd) (s st : Int) (chV : Value) (cn : Nat) (cs : List Value) (p d : ByteArray) (ov f : Int) (np nd : ByteArray) (nv nm nc no nk : Int) (w : World) (hg : GroundT w)
    (hR : ReqAt w base rb mb n D s st chV cn cs) (hr : Rep D T) (hs : Srt T) (hl : Sml T) (hn : T.length ≤ 1000) :
    Calls Tryz.prog 43 #[.pointer (some ⟨rb, 0, none⟩), opV 5 p d ov f, fuV np nd nv nm nc no nk] w fun e w' => e = .returned (.int .i64 0) ∧ Below w.heap.size w w' := by
  have n0 := hg.need 5 0 false rfl
  have n1 := hg.need 5 1 false rfl
  have n2 := hg.need 5 2 false rfl
  have n3 := hg.need 5 3 false rfl
  have n4 := hg.need 5 4 false rfl
  have n5 := hg.need 5 5 false rfl
  simp only [Nat.reduceMul, Nat.reduceAdd] at n0 n1 n2 n3 n4 n5
  have hlt := hg.needLt
  have HR : Hid _ := hR
  have hrl := hR.lt.1
  clear hg hR hr hs hl hn
  go_enter Tryz.func43, Tryz.ntmps43
  go_upto_region 4 with fail
  obtain ⟨w3, hw3⟩ : ∃ x, ((w.alloc (.cells #[.int .i64 5, .string p, .string d, .int .i64 ov, .int .i64 f] 83)).alloc (.cells #[.string np, .string nd, .int .i64 nv, .int .i64 nm, .int .i64 nc, .int .i64 no, .int .i64 nk] 64)).alloc (.cells #[.bool false, .bool false, .bool false, .bool false, .bool false, .bool false] 108) = x := ⟨_, rfl⟩
  obtain ⟨ob, hob⟩ : ∃ x, w.heap.size = x := ⟨_, rfl⟩
  rw [hw3]
  have HB3 : Hid (Below w.heap.size w w3) := by rw [← hw3]; exact (((Below.refl _ _).alloc (Nat.le_refl _) _).alloc (by simp) _).alloc (by simp; omega) _
  have HF3 : Hid (w3.heap[w.heap.size + 1]? = some (.cells #[.string np, .string nd, .int .i64 nv, .int .i64 nm, .int .i64 nc, .int .i64 no, .int .i64 nk] 64 (0, 0))) := by rw [← hw3]; exact new_old (heap_alloc2_new _ _ _) _
  have HE3 : Hid (w3.heap[w.heap.size + 1 + 1]? = some (.cells #[.bool false, .bool false, .bool false, .bool false, .bool false, .bool false] 108 (0, 0))) := by rw [← hw3]; exact alloc3_new _ _ _ _
  clear hw3 hob n0 n1 n2 n3 n4 n5 hlt
  obtain ⟨a0, a1, a2, a3, a4, a5, a6⟩ := cells_7 HF3.out
  obtain ⟨m0, m1, m2, m3, m4, m5⟩ := cells_6 HE3.out
  go_region
  go_wp2_with fail
  go_ret
  exact ⟨rfl, below_drewN HB3.out _⟩
set_option maxHeartbeats 8000000 in
set_option maxRecDepth 100000 in
theorem mis_6a (base rb mb n : Nat) (D : DataW Value) (T : List Nd) (s st : Int) (chV : Value) (cn : Nat) (cs : List Value) (p d : ByteArray) (ov f : Int) (np nd : ByteArray) (nv nm nc no nk : Int) (w : World) (hg : GroundT w)
    (hR : ReqAt w base rb mb n D s st chV cn cs) (hr : Rep D T) (hs : Srt T) (hl : Sml T) (hn : T.length ≤ 1000) :
    Calls Tryz.prog 43 #[.pointer (some ⟨rb, 0, none⟩), opV 6 p d ov f, fuV np nd nv nm nc no nk] w fun e w' => e = .returned (.int .i64 0) ∧ Below w.heap.size w w' := by
  have n0 := hg.need 6 0 false rfl
  have n1 := hg.need 6 1 false rfl
  have n2 := hg.need 6 2 false rfl
  have n3 := hg.need 6 3 false rfl
  have n4 := hg.need 6 4 false rfl
  have n5 := hg.need 6 5 false rfl
  simp only [Nat.reduceMul, Nat.reduceAdd] at n0 n1 n2 n3 n4 n5
  have hlt := hg.needLt
  have HR : Hid _ := hR
  have hrl := hR.lt.1
  clear hg hR hr hs hl hn
  go_enter Tryz.func43, Tryz.ntmps43
  go_upto_region 4 with fail
  obtain ⟨w3, hw3⟩ : ∃ x, ((w.alloc (.cells #[.int .i64 6, .string p, .string d, .int .i64 ov, .int .i64 f] 83)).alloc (.cells #[.string np, .string nd, .int .i64 nv, .int .i64 nm, .int .i64 nc, .int .i64 no, .int .i64 nk] 64)).alloc (.cells #[.bool false, .bool false, .bool false, .bool false, .bool false, .bool false] 108) = x := ⟨_, rfl⟩
  obtain ⟨ob, hob⟩ : ∃ x, w.heap.size = x := ⟨_, rfl⟩
  rw [hw3]
  have HB3 : Hid (Below w.heap.size w w3) := by rw [← hw3]; exact (((Below.refl _ _).alloc (Nat.le_refl _) _).alloc (by simp) _).alloc (by simp; omega) _
  have HF3 : Hid (w3.heap[w.heap.size + 1]? = some (.cells #[.string np, .string nd, .int .i64 nv, .int .i64 nm, .int .i64 nc, .int .i64 no, .int .i64 nk] 64 (0, 0))) := by rw [← hw3]; exact new_old (heap_alloc2_new _ _ _) _
  have HE3 : Hid (w3.heap[w.heap.size + 1 + 1]? = some (.cells #[.bool false, .bool false, .bool false, .bool false, .bool false, .bool false] 108 (0, 0))) := by rw [← hw3]; exact alloc3_new _ _ _ _
  clear hw3 hob n0 n1 n2 n3 n4 n5 hlt
  obtain ⟨a0, a1, a2, a3, a4, a5, a6⟩ := cells_7 HF3.out
  obtain ⟨m0, m1, m2, m3, m4, m5⟩ := cells_6 HE3.out
  go_region
  go_wp2_with fail
  go_ret
  exact ⟨rfl, below_drewN HB3.out _⟩
set_option maxHeartbeats 8000000 in
set_option maxRecDepth 100000 in
theorem mis_7a (base rb mb n : Nat) (D : DataW Value) (T : List Nd) (s st : Int) (chV : Value) (cn : Nat) (cs : List Value) (p d : ByteArray) (ov f : Int) (np nd : ByteArray) (nv nm nc no nk : Int) (w : World) (hg : GroundT w)
    (hR : ReqAt w base rb mb n D s st chV cn cs) (hr : Rep D T) (hs : Srt T) (hl : Sml T) (hn : T.length ≤ 1000) :
    Calls Tryz.prog 43 #[.pointer (some ⟨rb, 0, none⟩), opV 7 p d ov f, fuV np nd nv nm nc no nk] w fun e w' => e = .returned (.int .i64 0) ∧ Below w.heap.size w w' := by
  have n0 := hg.need 7 0 false rfl
  have n1 := hg.need 7 1 false rfl
  have n2 := hg.need 7 2 false rfl
  have n3 := hg.need 7 3 false rfl
  have n4 := hg.need 7 4 false rfl
  have n5 := hg.need 7 5 false rfl
  simp only [Nat.reduceMul, Nat.reduceAdd] at n0 n1 n2 n3 n4 n5
  have hlt := hg.needLt
  have HR : Hid _ := hR
  have hrl := hR.lt.1
  clear hg hR hr hs hl hn
  go_enter Tryz.func43, Tryz.ntmps43
  go_upto_region 4 with fail
  obtain ⟨w3, hw3⟩ : ∃ x, ((w.alloc (.cells #[.int .i64 7, .string p, .string d, .int .i64 ov, .int .i64 f] 83)).alloc (.cells #[.string np, .string nd, .int .i64 nv, .int .i64 nm, .int .i64 nc, .int .i64 no, .int .i64 nk] 64)).alloc (.cells #[.bool false, .bool false, .bool false, .bool false, .bool false, .bool false] 108) = x := ⟨_, rfl⟩
  obtain ⟨ob, hob⟩ : ∃ x, w.heap.size = x := ⟨_, rfl⟩
  rw [hw3]
  have HB3 : Hid (Below w.heap.size w w3) := by rw [← hw3]; exact (((Below.refl _ _).alloc (Nat.le_refl _) _).alloc (by simp) _).alloc (by simp; omega) _
  have HF3 : Hid (w3.heap[w.heap.size + 1]? = some (.cells #[.string np, .string nd, .int .i64 nv, .int .i64 nm, .int .i64 nc, .int .i64 no, .int .i64 nk] 64 (0, 0))) := by rw [← hw3]; exact new_old (heap_alloc2_new _ _ _) _
  have HE3 : Hid (w3.heap[w.heap.size + 1 + 1]? = some (.cells #[.bool false, .bool false, .bool false, .bool false, .bool false, .bool false] 108 (0, 0))) := by rw [← hw3]; exact alloc3_new _ _ _ _
  clear hw3 hob n0 n1 n2 n3 n4 n5 hlt
  obtain ⟨a0, a1, a2, a3, a4, a5, a6⟩ := cells_7 HF3.out
  obtain ⟨m0, m1, m2, m3, m4, m5⟩ := cells_6 HE3.out
  go_region
  go_wp2_with fail
  go_ret
  exact ⟨rfl, below_drewN HB3.out _⟩
theorem misfit_any {k : Int} (h2 : 2 ≤ k) (h7 : k ≤ 7) (base rb mb n : Nat) (D : DataW Value) (T : List Nd) (s st : Int) (chV : Value) (cn : Nat) (cs : List Value) (p d : ByteArray) (ov f : Int) (np nd : ByteArray) (nv nm nc no nk : Int) (w : World) (hg : GroundT w)
    (hR : ReqAt w base rb mb n D s st chV cn cs) (hr : Rep D T) (hs : Srt T) (hl : Sml T) (hn : T.length ≤ 1000) :
    Calls Tryz.prog 43 #[.pointer (some ⟨rb, 0, none⟩), opV k p d ov f, fuV np nd nv nm nc no nk] w fun e w' => e = .returned (.int .i64 (misC k ov nv (kidsM T np))) ∧ Below w.heap.size w w' := by
  rcases (show k = 2 ∨ k = 3 ∨ k = 4 ∨ k = 5 ∨ k = 6 ∨ k = 7 by omega) with rfl | rfl | rfl | rfl | rfl | rfl
  · by_cases h1 : ov = -1
    · subst h1
      by_cases h3 : nv < 2147483647
      · have e : misC 2 (-1) nv (kidsM T np) = 0 := by simp [misC]; omega
        rw [e]
        exact mis_2m base rb mb n D T s st chV cn cs p d f np nd nv nm nc no nk w hg hR hr hs hl hn h3
      · have e : misC 2 (-1) nv (kidsM T np) = 46 := by simp [misC]; omega
        rw [e]
        exact mis_2mn base rb mb n D T s st chV cn cs p d f np nd nv nm nc no nk w hg hR hr hs hl hn (by omega)
    · by_cases h4 : ov = nv
      · subst h4
        by_cases h3 : ov < 2147483647
        · have e : misC 2 ov ov (kidsM T np) = 0 := by simp [misC]; omega
          rw [e]
          exact mis_2e base rb mb n D T s st chV cn cs p d f np nd ov nm nc no nk w hg hR hr hs hl hn h1 h3
        · have e : misC 2 ov ov (kidsM T np) = 46 := by simp [misC]; omega
          rw [e]
          exact mis_2en base rb mb n D T s st chV cn cs p d f np nd ov nm nc no nk w hg hR hr hs hl hn h1 (by omega)
      · have e : misC 2 ov nv (kidsM T np) = 42 := by simp [misC, h1, h4]
        rw [e]
        exact mis_2x base rb mb n D T s st chV cn cs p d ov f np nd nv nm nc no nk w hg hR hr hs hl hn h1 h4
  · by_cases h1 : ov = -1
    · subst h1
      by_cases h3 : kidsM T np = []
      · have e : misC 3 (-1) nv (kidsM T np) = 0 := by simp [misC, h3]
        rw [e]
        exact mis_3m base rb mb n D T s st chV cn cs p d f np nd nv nm nc no nk w hg hR hr hs hl hn h3
      · have e : misC 3 (-1) nv (kidsM T np) = 43 := by simp [misC, h3]
        rw [e]
        exact mis_3mn base rb mb n D T s st chV cn cs p d f np nd nv nm nc no nk w hg hR hr hs hl hn h3
    · by_cases h4 : ov = nv
      · subst h4
        by_cases h3 : kidsM T np = []
        · have e : misC 3 ov ov (kidsM T np) = 0 := by simp [misC, h3]
          rw [e]
          exact mis_3e base rb mb n D T s st chV cn cs p d f np nd ov nm nc no nk w hg hR hr hs hl hn h1 h3
        · have e : misC 3 ov ov (kidsM T np) = 43 := by simp [misC, h3]
          rw [e]
          exact mis_3en base rb mb n D T s st chV cn cs p d f np nd ov nm nc no nk w hg hR hr hs hl hn h1 h3
      · have e : misC 3 ov nv (kidsM T np) = 42 := by simp [misC, h1, h4]
        rw [e]
        exact mis_3x base rb mb n D T s st chV cn cs p d ov f np nd nv nm nc no nk w hg hR hr hs hl hn h1 h4
  · by_cases h1 : ov = -1
    · subst h1
      have e : misC 4 (-1) nv (kidsM T np) = 0 := by simp [misC]
      rw [e]
      exact mis_4m base rb mb n D T s st chV cn cs p d f np nd nv nm nc no nk w hg hR hr hs hl hn
    · by_cases h4 : ov = nv
      · subst h4
        have e : misC 4 ov ov (kidsM T np) = 0 := by simp [misC]
        rw [e]
        exact mis_4e base rb mb n D T s st chV cn cs p d f np nd ov nm nc no nk w hg hR hr hs hl hn h1
      · have e : misC 4 ov nv (kidsM T np) = 42 := by simp [misC, h1, h4]
        rw [e]
        exact mis_4x base rb mb n D T s st chV cn cs p d ov f np nd nv nm nc no nk w hg hR hr hs hl hn h1 h4
  · have e : misC 5 ov nv (kidsM T np) = 0 := by simp [misC]
    rw [e]
    exact mis_5a base rb mb n D T s st chV cn cs p d ov f np nd nv nm nc no nk w hg hR hr hs hl hn
  · have e : misC 6 ov nv (kidsM T np) = 0 := by simp [misC]
    rw [e]
    exact mis_6a base rb mb n D T s st chV cn cs p d ov f np nd nv nm nc no nk w hg hR hr hs hl hn
  · have e : misC 7 ov nv (kidsM T np) = 0 := by simp [misC]
    rw [e]
    exact mis_7a base rb mb n D T s st chV cn cs p d ov f np nd nv nm nc no nk w hg hR hr hs hl hn
end Go.Proofs.YtmbomdhhiioigaaGreatDoor
