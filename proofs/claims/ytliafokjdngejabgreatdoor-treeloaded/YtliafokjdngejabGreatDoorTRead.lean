/-
  tree: read: what Check, Get, Look and List answer.
-/
import Derived.Test.YtliafokjdngejabGreatDoorTSet
import Derived.Test.YtliafokjdngejabGreatDoorTKids
namespace Go.Proofs.YtliafokjdngejabGreatDoor
open Go.RowKit Go.Maps Go.WideShapes
set_option linter.unusedVariables false
set_option linter.unusedSimpArgs false
attribute [local go_sem ↓] Go.wp_at_zero Go.wp_at_succ

abbrev resV (p d : ByteArray) (v m c o : Int) (k : Value) : Value := .agg #[.string p, .string d, .int .i64 v, .int .i64 m, .int .i64 c, .int .i64 o, k]
set_option maxHeartbeats 16000000 in
set_option maxRecDepth 100000 in
theorem read_any (base rb mb n : Nat) (D : DataW Value) (T : List Nd) (s st : Int) (chV : Value) (cn : Nat) (cs : List Value) (q : Int) (p d : ByteArray) (v m c o k : Int) (w : World) (hg : Ground w)
    (hR : ReqAt w base rb mb n D s st chV cn cs) (hr : Rep D T) (hs : Srt T) (hl : Sml T) (hn : T.length ≤ 1000) (h1 : p.size ≤ 1000) (h2 : d.size ≤ 1000) :
    Calls Tryz.prog 60 #[.pointer (some ⟨rb, 0, none⟩), .int .i64 q, fuV p d v m c o k] w fun e w' => ∃ kv, e = .returned (resV p (if q = 5 then d else ⟨#[]⟩) v m c o kv) ∧ w'.ownsRow w.heap.size 9 1 kv (if q = 7 then kidsM T p else []).length ((if q = 7 then kidsM T p else []).map Value.string) ∧ Below w.heap.size w w' := by
  have HRE : Hid _ := result_any p d v m c o k (by omega)
  have HSC : Hid _ := sclone_any d (by omega)
  have HR : Hid _ := hR
  have hrl := hR.lt.1
  have HKI : Hid (∀ W, Below w.heap.size w W → _) := fun W hb => kids_any mb n D T p W (hg.below hb) (hR.below hb).map hr hs hl hn
  clear hR hg hr hs hl hn
  obtain ⟨W1, hW1⟩ : ∃ x, (w.alloc (.cells #[.string p, .string d, .int .i64 v, .int .i64 m, .int .i64 c, .int .i64 o, .int .i64 k] 32)).alloc (.cells #[.string ⟨#[]⟩, .string ⟨#[]⟩, .int .i64 0, .int .i64 0, .int .i64 0, .int .i64 0, .slice none 0 0] 91) = x := ⟨_, rfl⟩
  obtain ⟨nb, hnb⟩ : ∃ nb, w.heap.size = nb := ⟨_, rfl⟩
  obtain ⟨zb, hzb⟩ : ∃ zb, w.heap.size + 1 = zb := ⟨_, rfl⟩
  have HB1 : Hid (Below w.heap.size w W1) := by rw [← hW1]; exact ((Below.refl _ _).alloc (Nat.le_refl _) _).alloc (by simp) _
  have HN1 : Hid (W1.heap[nb]? = some (.cells #[.string p, .string d, .int .i64 v, .int .i64 m, .int .i64 c, .int .i64 o, .int .i64 k] 32 (0, 0))) := by rw [← hW1, ← hnb]; exact heap_alloc2_old _ _ _
  have HZ1 : Hid (W1.heap[zb]? = some (.cells #[.string ⟨#[]⟩, .string ⟨#[]⟩, .int .i64 0, .int .i64 0, .int .i64 0, .int .i64 0, .slice none 0 0] 91 (0, 0))) := by rw [← hW1, ← hzb]; exact heap_alloc2_new _ _ _
  have HW1 : Hid _ := hW1
  have HNB : Hid (w.heap.size = nb) := hnb
  have HZB : Hid (w.heap.size + 1 = zb) := hzb
  have hnbl : w.heap.size ≤ nb := by omega
  have hzbl : w.heap.size ≤ zb := by omega
  have hnz : nb < zb := by omega
  clear hW1 hnb hzb
  go_enter Tryz.func60, Tryz.ntmps60
  go_upto_region 1 with fail
  rw [HW1.out, HZB.out, HNB.out]
  obtain ⟨a0, a1, a2, a3, a4, a5, a6⟩ := cells_7 HN1.out
  go_wp2_with fail
  refine (HRE.out _).mono ?_
  rintro e w2 ⟨rfl, hb2⟩
  have HB2 : Hid (Below w.heap.size w w2) := trans2 HB1.out hb2
  have HN2 : Hid _ := kept_block hb2 HN1.out
  have HZ2 : Hid _ := kept_block hb2 HZ1.out
  have hzl2 : zb < w2.heap.size := (Array.getElem?_eq_some_iff.1 HZ2.out).1
  clear hb2 a0 a1 a2 a3 a4 a5 a6
  go_upto_region 2 with fail
  obtain ⟨w3, hw3⟩ : ∃ x, w2.alloc (.cells #[.string p, .string ⟨#[]⟩, .int .i64 v, .int .i64 m, .int .i64 c, .int .i64 o, .slice none 0 0] 91) = x := ⟨_, rfl⟩
  obtain ⟨yb, hyb⟩ : ∃ yb, w2.heap.size = yb := ⟨_, rfl⟩
  rw [hw3, hyb]
  have HY3 : Hid (w3.heap[yb]? = some (.cells #[.string p, .string ⟨#[]⟩, .int .i64 v, .int .i64 m, .int .i64 c, .int .i64 o, .slice none 0 0] 91 (0, 0))) := by rw [← hw3, ← hyb]; exact heap_alloc_new _ _
  have HB3 : Hid (Below w.heap.size w w3) := by rw [← hw3]; exact HB2.out.alloc HB2.out.size _
  have HN3 : Hid _ := new_old HN2.out (.cells #[.string p, .string ⟨#[]⟩, .int .i64 v, .int .i64 m, .int .i64 c, .int .i64 o, .slice none 0 0] 91)
  have HZ3 : Hid _ := new_old HZ2.out (.cells #[.string p, .string ⟨#[]⟩, .int .i64 v, .int .i64 m, .int .i64 c, .int .i64 o, .slice none 0 0] 91)
  rw [hw3] at HN3 HZ3
  have hyl : zb < yb := by omega
  clear hw3 hyb
  obtain ⟨a0, a1, a2, a3, a4, a5, a6⟩ := cells_7 HN3.out
  obtain ⟨y0, y1, y2, y3, y4, y5, y6⟩ := cells_7 HY3.out
  have hfy := free_7 HY3.out
  by_cases hq5 : q = 5
  · subst hq5
    go_wp2_with fail
    refine (HSC.out _).mono ?_
    rintro e w4 ⟨rfl, hb4⟩
    have HB4 : Hid (Below w.heap.size w w4) := trans2 HB3.out hb4
    have HY4 : Hid _ := kept_block hb4 HY3.out
    have HZ4 : Hid _ := kept_block hb4 HZ3.out
    clear hb4 a0 a1 a2 a3 a4 a5 a6 y0 y1 y2 y3 y4 y5 y6 hfy
    obtain ⟨y0, y1, y2, y3, y4, y5, y6⟩ := cells_7 HY4.out
    have hfy := free_7 HY4.out
    go_upto_region 7 with fail
    obtain ⟨w5, hw5⟩ : ∃ x, w4.setCell ⟨yb, 1, none⟩ (.string d) = x := ⟨_, rfl⟩
    rw [hw5]
    have HY5 : Hid (w5.heap[yb]? = some (.cells #[.string p, .string d, .int .i64 v, .int .i64 m, .int .i64 c, .int .i64 o, .slice none 0 0] 91 (0, 0))) := by rw [← hw5]; exact same_blk HY4.out rfl
    have HZ5 : Hid _ := other_blk HZ4.out (show zb ≠ yb by omega) (i := 1) (v := .string d)
    rw [hw5] at HZ5
    have HB5 : Hid (Below w.heap.size w w5) := by rw [← hw5]; exact HB4.out.setCell (by show w.heap.size ≤ yb; omega) _
    clear hw5 y0 y1 y2 y3 y4 y5 y6 hfy
    obtain ⟨y0, y1, y2, y3, y4, y5, y6⟩ := cells_7 HY5.out
    obtain ⟨b0, b1, b2, b3, b4, b5, b6⟩ := cells_7 HZ5.out
    have hfz := free_7 HZ5.out
    go_wp2_with fail
    exact bodyPost_ret (results_cell1 rfl _ _ zb 91 _ (0, 0) _ rfl (fill_7 HZ5.out) Tryz.underlying91 rfl (by kernel_rfl)) rfl ⟨_, rfl, World.ownsRow_nil _ _ _ _, fillB_7 HB5.out (by omega)⟩
  · have hd5 : (q == 5) = false := by simpa using hq5
    by_cases hq7 : q = 7
    · subst hq7
      go_upto_region 6 with fail
      have r2 := (cells_4 (HR.out.below HB3.out).box).2.2.1
      have HKJ : Hid _ := HKI.out w3.drew (below_drew HB3.out)
      have qyr : rb ≠ yb := by omega
      have qyn : nb ≠ yb := by omega
      go_region_held3 (fun w' => w'.cell? ⟨rb, 2, none⟩ = some (.map (some mb)) ∧ w'.cell? ⟨nb, 0, none⟩ = some (.string p)) (first | (simp only [World.cell?_drew, r2, a0, and_self]) | (simp only [cellN qyr, cellN qyn, r2, a0, and_self]) | go_keep)
        (first
          | (go_at_call 79; refine Calls.mono HKJ.out ?_; rintro e w4 ⟨kv, rfl, hrow, hb4'⟩
             have hb4 := of_drew hb4'
             have HB4 : Hid (Below w.heap.size w w4) := trans2 HB3.out hb4
             have HY4 : Hid _ := kept_block hb4 HY3.out
             have HZ4 : Hid _ := kept_block hb4 HZ3.out
             have HN4 : Hid _ := kept_block hb4 HN3.out
             have HRW : Hid (w4.ownsRow w3.heap.size 9 1 kv (kidsM T p).length ((kidsM T p).map Value.string)) := hrow
             obtain ⟨ka, kn, kc, rfl⟩ : ∃ a n c, kv = .slice a n c := by
               rcases hrow.2 with ⟨rfl, _⟩ | ⟨g, cap, cur, rfl, _⟩
               · exact ⟨_, _, _, rfl⟩
               · exact ⟨_, _, _, rfl⟩
             clear hb4 hb4' hrow a0 a1 a2 a3 a4 a5 a6 y0 y1 y2 y3 y4 y5 y6 hfy r2
             obtain ⟨a0, a1, a2, a3, a4, a5, a6⟩ := cells_7 HN4.out
             obtain ⟨y0, y1, y2, y3, y4, y5, y6⟩ := cells_7 HY4.out
             have hfy := free_7 HY4.out
             have r2 := (cells_4 (HR.out.below HB4.out).box).2.2.1))
      go_upto_region 7 with fail
      obtain ⟨w5, hw5⟩ : ∃ x, w4.setCell ⟨yb, 6, none⟩ (.slice ka kn kc) = x := ⟨_, rfl⟩
      rw [hw5]
      have HY5 : Hid (w5.heap[yb]? = some (.cells #[.string p, .string ⟨#[]⟩, .int .i64 v, .int .i64 m, .int .i64 c, .int .i64 o, .slice ka kn kc] 91 (0, 0))) := by rw [← hw5]; exact same_blk HY4.out rfl
      have HZ5 : Hid _ := other_blk HZ4.out (show zb ≠ yb by omega) (i := 6) (v := .slice ka kn kc)
      rw [hw5] at HZ5
      have HB5 : Hid (Below w.heap.size w w5) := by rw [← hw5]; exact HB4.out.setCell (by show w.heap.size ≤ yb; omega) _
      have HR5 : Hid (w5.ownsRow w.heap.size 9 1 (.slice ka kn kc) (kidsM T p).length ((kidsM T p).map Value.string)) := by
        have h9 := HRW.out
        have h8 : w5.ownsRow w3.heap.size 9 1 (.slice ka kn kc) (kidsM T p).length ((kidsM T p).map Value.string) := by
          rw [← hw5]
          refine owns_same h9 (fun j hj => Below.heap_setCell _ _ _ j (fun e => ?_))
          have e' : j = yb := e
          subst e'
          have h7 := (h9.lt _ hj).1
          have h6 := (Array.getElem?_eq_some_iff.1 HY3.out).1
          omega
        exact ⟨h8.1, h8.2.imp id (fun ⟨g, cap, cur, h1, h2, r⟩ => ⟨g, cap, cur, h1, Nat.le_trans HB3.out.size h2, r⟩)⟩
      clear hw5 y0 y1 y2 y3 y4 y5 y6 hfy a0 a1 a2 a3 a4 a5 a6 r2
      obtain ⟨y0, y1, y2, y3, y4, y5, y6⟩ := cells_7 HY5.out
      obtain ⟨b0, b1, b2, b3, b4, b5, b6⟩ := cells_7 HZ5.out
      have hfz := free_7 HZ5.out
      go_wp2_with fail
      refine bodyPost_ret (results_cell1 rfl _ _ zb 91 _ (0, 0) _ rfl (fill_7 HZ5.out) Tryz.underlying91 rfl (by kernel_rfl)) rfl ⟨.slice ka kn kc, rfl, ?_, fillB_7 HB5.out (by omega)⟩
      refine owns_chg HR5.out putC_7 (fun j hj e => ?_)
      have e' : j = zb := e
      subst e'
      obtain ⟨cur, hcur⟩ := owns_kind HR5.out hj
      rw [HZ5.out] at hcur
      simp at hcur
    · have hd7 : (q == 7) = false := by simpa using hq7
      go_upto_region 7 with fail
      obtain ⟨b0, b1, b2, b3, b4, b5, b6⟩ := cells_7 HZ3.out
      have hfz := free_7 HZ3.out
      go_wp2_with fail
      refine bodyPost_ret (results_cell1 rfl _ _ zb 91 _ (0, 0) _ rfl (fill_7 HZ3.out) Tryz.underlying91 rfl (by kernel_rfl)) rfl ⟨.slice none 0 0, ?_, ?_, fillB_7 HB3.out (by omega)⟩
      · rfl
      · exact World.ownsRow_nil _ _ _ _
end Go.Proofs.YtliafokjdngejabGreatDoor
