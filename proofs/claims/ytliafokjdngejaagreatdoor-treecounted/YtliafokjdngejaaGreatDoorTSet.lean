/-
  tree: set.
-/
import Derived.Test.YtliafokjdngejaaGreatDoorTMake
namespace Go.Proofs.YtliafokjdngejaaGreatDoor
open Go.RowKit Go.Maps
set_option linter.unusedVariables false
set_option linter.unusedSimpArgs false
attribute [local go_sem ↓] Go.wp_at_zero Go.wp_at_succ

theorem results_cell1 {P : Program} {fn : Func} {p : Tmp} {ty : TypeId} (h : fn.results = #[.cell p ty]) (tmps : Array Value) (w : World) (g : Nat) (t : TypeId) (cs : Array Value) (fr : Nat × Nat) (d : TypeDesc)
    (hp : tmps.getD p undef = .pointer (some ⟨g, 0, none⟩)) (hg : w.heap[g]? = some (.cells cs t fr))
    (hu : P.underlying ty = some d) (hd : (match d with | .struct _ | .array _ _ => true | _ => false) = true) (hi : (P.info? ty).map (·.size) = some cs.size) :
    (results fn tmps).run P w = .ok (.agg cs) w := by
  have hp' : tmps[p]?.getD undef = .pointer (some ⟨g, 0, none⟩) := by simpa using hp
  simp [results, h, hp', asAddr, run_loadVar_row w g t ty cs fr d hg hu hd hi]
set_option maxHeartbeats 16000000 in
set_option maxRecDepth 100000 in
theorem set_any (base rb mb n : Nat) (D : DataW Value) (s st : Int) (chV : Value) (cn : Nat) (cs : List Value) (p d0 d : ByteArray) (v m c o k : Int) (w : World)
    (hR : ReqAt w base rb mb n D s st chV cn cs) (hv : -1000 ≤ v ∧ v < 2147483647) (h1 : p.size ≤ 1000) (h2 : d.size ≤ 1000) (hn : n ≤ 10000) (hcn : cn ≤ 1000) :
    Calls Tryz.prog 54 #[.pointer (some ⟨rb, 0, none⟩), fuV p d0 v m c o k, .string d] w fun e w' => e = .returned (.agg #[.string p, .string ⟨#[]⟩, .int .i64 (v + 1), .int .i64 m, .int .i64 st, .int .i64 o, .slice none 0 0]) ∧
      ∃ chV', ReqAt w' base rb mb (n + 1) (D.put (ky p) (.held (fuV p d (v + 1) m st o k))) s st chV' (cn + 1) (cs ++ [.int .i64 2, .string p, .string d, .int .i64 (v + 1)]) ∧ (chV'.ownBlock = chV.ownBlock ∨ ∃ g, chV'.ownBlock = some g ∧ w.heap.size ≤ g) ∧ Chg w w' (fun k => k = rb ∨ k = mb ∨ chV.ownBlock = some k) := by
  have hvw : IntKind.i64.wrap (v + 1) = v + 1 := by rw [IntKind.wrap_i64]; omega
  clear hv
  obtain ⟨i0, hi0, hz0, hz1, hz2⟩ := info_parts Tryz.infoC
  have HR : Hid _ := hR
  have hrl := hR.lt.1
  have hml := hR.lt.2
  obtain ⟨nb, hnb⟩ : ∃ nb, w.heap.size = nb := ⟨_, rfl⟩
  obtain ⟨zb, hzb⟩ : ∃ zb, w.heap.size + 1 = zb := ⟨_, rfl⟩
  have hnz : nb ≠ zb ∧ rb ≠ nb ∧ rb ≠ zb ∧ mb ≠ nb ∧ mb ≠ zb := by refine ⟨?_, ?_, ?_, ?_, ?_⟩ <;> omega
  obtain ⟨hnz1, hnz2, hnz3, hnz4, hnz5⟩ := hnz
  clear hR
  obtain ⟨W1, hW1⟩ : ∃ x, (w.alloc (.cells #[.string p, .string d0, .int .i64 v, .int .i64 m, .int .i64 c, .int .i64 o, .int .i64 k] 54)).alloc (.cells #[.string ⟨#[]⟩, .string ⟨#[]⟩, .int .i64 0, .int .i64 0, .int .i64 0, .int .i64 0, .slice none 0 0] 40) = x := ⟨_, rfl⟩
  have HB1 : Hid (Below w.heap.size w W1) := by rw [← hW1]; exact ((Below.refl _ _).alloc (Nat.le_refl _) _).alloc (by simp) _
  have HN1 : Hid (W1.heap[nb]? = some (.cells #[.string p, .string d0, .int .i64 v, .int .i64 m, .int .i64 c, .int .i64 o, .int .i64 k] 54 (0, 0))) := by rw [← hW1, ← hnb]; exact heap_alloc2_old _ _ _
  have HZ1 : Hid (W1.heap[zb]? = some (.cells #[.string ⟨#[]⟩, .string ⟨#[]⟩, .int .i64 0, .int .i64 0, .int .i64 0, .int .i64 0, .slice none 0 0] 40 (0, 0))) := by rw [← hW1, ← hzb]; exact heap_alloc2_new _ _ _
  have HR1 : Hid _ := HR.out.below HB1.out
  have HW1 : Hid _ := hW1
  have HNB : Hid (w.heap.size = nb) := hnb
  have HZB : Hid (w.heap.size + 1 = zb) := hzb
  have hnbl : w.heap.size ≤ nb := by omega
  have hzbl : w.heap.size ≤ zb := by omega
  clear hW1 hnb hzb
  go_enter Tryz.func54, Tryz.ntmps54
  go_upto_region 1 with fail
  rw [HW1.out, HZB.out, HNB.out]
  obtain ⟨r0, r1, r2, r3⟩ := cells_4 HR1.out.box
  obtain ⟨a0, a1, a2, a3, a4, a5, a6⟩ := cells_7 HN1.out
  have hfn := free_7 HN1.out
  go_upto_region 4 with fail
  obtain ⟨w6, hw6⟩ : ∃ x, ((W1.setCell ⟨nb, 1, none⟩ (.string d)).setCell ⟨nb, 2, none⟩ (.int .i64 (v + 1))).setCell ⟨nb, 4, none⟩ (.int .i64 st) = x := ⟨_, rfl⟩
  rw [hw6]
  have hb6 : Below w.heap.size W1 w6 := by rw [← hw6]; exact (((Below.refl _ _).setCell (by show w.heap.size ≤ nb; omega) _).setCell (by show w.heap.size ≤ nb; omega) _).setCell (by show w.heap.size ≤ nb; omega) _
  have HB6 : Hid (Below w.heap.size w w6) := HB1.out.trans hb6
  have HR6 : Hid _ := HR.out.below HB6.out
  have HN6 : Hid (w6.heap[nb]? = some (.cells #[.string p, .string d, .int .i64 (v + 1), .int .i64 m, .int .i64 st, .int .i64 o, .int .i64 k] 54 (0, 0))) := by rw [← hw6]; exact same_blk (same_blk (same_blk HN1.out rfl) rfl) rfl
  have HZ6 : Hid _ := other_blk (other_blk (other_blk HZ1.out (Ne.symm hnz1) (i := 1) (v := .string d)) (Ne.symm hnz1) (i := 2) (v := .int .i64 (v + 1))) (Ne.symm hnz1) (i := 4) (v := .int .i64 st)
  rw [hw6] at HZ6
  clear hw6 hb6 r0 r1 r2 r3 a0 a1 a2 a3 a4 a5 a6 hfn
  obtain ⟨r0, r1, r2, r3⟩ := cells_4 HR6.out.box
  obtain ⟨a0, a1, a2, a3, a4, a5, a6⟩ := cells_7 HN6.out
  go_wp2_with fail
  have HM8 : Hid _ := put_any mb n D p d (v + 1) m st o k (by omega) (by omega) w6.drew (HR6.out.below (below_drew (Below.refl _ _))).map (by omega)
  go_region_held3 (fun w' => w'.cell? ⟨rb, 2, none⟩ = some (.map (some mb)) ∧ w'.cell? ⟨nb, 0, none⟩ = some (.string p) ∧ w'.cell? ⟨nb, 1, none⟩ = some (.string d) ∧ w'.cell? ⟨nb, 2, none⟩ = some (.int .i64 (v + 1)) ∧ w'.cell? ⟨nb, 3, none⟩ = some (.int .i64 m) ∧ w'.cell? ⟨nb, 4, none⟩ = some (.int .i64 st) ∧ w'.cell? ⟨nb, 5, none⟩ = some (.int .i64 o) ∧ w'.cell? ⟨nb, 6, none⟩ = some (.int .i64 k)) (first | (simp only [World.cell?_drew, r2, a0, a1, a2, a3, a4, a5, a6, and_self]) | go_keep)
    (first
      | (go_at_call 71; refine Calls.mono HM8.out ?_; rintro e w8 ⟨rfl, hm8, hc8⟩
         have HR8 : Hid _ := (HR6.out.below (below_drew (Below.refl _ _))).put hm8 hc8
         have HC8 : Hid (Chg w w8 (fun k => k = mb)) := (Chg.of_below (below_drew HB6.out) _).trans hc8
         have HZ8 : Hid _ := kept_chg hc8 HZ6.out (by omega)
         have HN8 : Hid _ := kept_chg hc8 HN6.out (by omega)
         clear hm8 hc8 r0 r1 r2 r3 a0 a1 a2 a3 a4 a5 a6
         obtain ⟨r0, r1, r2, r3⟩ := cells_4 HR8.out.box
         obtain ⟨a0, a1, a2, a3, a4, a5, a6⟩ := cells_7 HN8.out))
  go_wp2_with fail
  have HCH : Hid _ := change_any p d (v + 1) m st o k 2 (by omega) (by omega)
  have hbn : base ≤ w8.heap.size := HR8.out.base_le
  have HEN : Hid (∀ args w, (callFunc 67 args).run Tryz.prog w = .ok (.enter 67 args) w) := enters_of Tryz.func67 (by kernel_rfl) rfl
  have hnl8 : nb < w8.heap.size := (Array.getElem?_eq_some_iff.1 HN8.out).1
  go_cut [4] from 7 (fun s4 wc => s4 = .pointer (some ⟨nb, 0, none⟩) ∧ ∃ chV', Hid (ReqAt wc base rb mb (n + 1) (D.put (ky p) (.held (fuV p d (v + 1) m st o k))) s st chV' (cn + 1) (cs ++ [.int .i64 2, .string p, .string d, .int .i64 (v + 1)])) ∧ Hid (chV'.ownBlock = chV.ownBlock ∨ ∃ g, chV'.ownBlock = some g ∧ w.heap.size ≤ g) ∧ Hid (Chg w wc (fun k => k = rb ∨ k = mb ∨ chV.ownBlock = some k)) ∧ Hid (wc.heap[zb]? = some (.cells #[.string ⟨#[]⟩, .string ⟨#[]⟩, .int .i64 0, .int .i64 0, .int .i64 0, .int .i64 0, .slice none 0 0] 40 (0, 0))) ∧ Hid (wc.heap[nb]? = some (.cells #[.string p, .string d, .int .i64 (v + 1), .int .i64 m, .int .i64 st, .int .i64 o, .int .i64 k] 54 (0, 0))))
  case first =>
    go_region_law
      (first
        | (refine step_call2 (by rfl) 67 _ _ _ (by rfl) HEN.out (fuV p d (v + 1) m st o k) (.int .i64 2) (by rfl) (by rfl) (HCH.out _) (.agg #[.int .i64 2, .string p, .string d, .int .i64 (v + 1)]) (fun _ _ h => h.1) ?_
           intro w9 hR9
           have hb9 := hR9.2
           clear hR9
           have hb9' := of_drew hb9
           have HR9 : Hid _ := HR8.out.below hb9'
           have HC9 : Hid _ := HC8.out.trans (Chg.of_below hb9' _)
           have HZ9 : Hid _ := kept_block hb9' HZ8.out
           have HN9 : Hid _ := kept_block hb9' HN8.out
           have hrl9 : rb < w9.heap.size := HR9.out.lt.1
           have hnl9 : nb < w9.heap.size := (Array.getElem?_eq_some_iff.1 HN9.out).1
           have hzl9 : zb < w9.heap.size := (Array.getElem?_eq_some_iff.1 HZ9.out).1
           have qr : rb ≠ w9.heap.size := by omega
           have qn9 : nb ≠ w9.heap.size := by omega
           have hba9 : base ≤ w9.heap.size := HR9.out.base_le
           clear hb9 hb9' r0 r1 r2 r3 a0 a1 a2 a3 a4 a5 a6
           obtain ⟨r0, r1, r2, r3⟩ := cells_4 HR9.out.box
           obtain ⟨a0, a1, a2, a3, a4, a5, a6⟩ := cells_7 HN9.out)
        | (refine step_append_lies _ (by rfl) _ _ _ (by rfl) base 56 i0 _ 4 48 Tryz.underlying29 hi0 hz0 hz1 hz2 rfl (by omega) chV cn cs (by rfl) (World.ownsRow.alloc HR9.out.row _) ⟨w9.heap.size, 0, none⟩ 1 1 [.int .i64 2, .string p, .string d, .int .i64 (v + 1)] (by rfl) (by rfl) (World.news_of_block (cs := #[.int .i64 2, .string p, .string d, .int .i64 (v + 1)]) (t := 56) (fr := (0, 0)) (heap_alloc_new w9 _)) (by simp [Value.oneCell']) (by omega) (by unfold maxLen; omega) (by omega) (by simp; omega) (w9.heap.size + 1) (by simp) ?_
           intro g cap w10 hown10 hgrow10 hat10 hlt10
           have happ := ReqAt.appended HR9.out hown10 hgrow10
           have HX10 : Hid _ := happ.1
           have HR10 : Hid _ := happ.2.1
           have HC10 : Hid _ := happ.2.2
           have HN10 : Hid (w10.heap[nb]? = some (.cells #[.string p, .string d, .int .i64 (v + 1), .int .i64 m, .int .i64 st, .int .i64 o, .int .i64 k] 54 (0, 0))) := by
             refine kept_chg ((Chg.alloc w9 _ _).trans (Chg.grown hgrow10)) HN9.out (fun e => ?_)
             obtain ⟨cur, hcur⟩ := owns_kind HR9.out.row e
             rw [HN9.out] at hcur
             simp at hcur
           have HZ10 : Hid (w10.heap[zb]? = some (.cells #[.string ⟨#[]⟩, .string ⟨#[]⟩, .int .i64 0, .int .i64 0, .int .i64 0, .int .i64 0, .slice none 0 0] 40 (0, 0))) := by
             refine kept_chg ((Chg.alloc w9 _ _).trans (Chg.grown hgrow10)) HZ9.out (fun e => ?_)
             obtain ⟨cur, hcur⟩ := owns_kind HR9.out.row e
             rw [HZ9.out] at hcur
             simp at hcur
           have HAT : Hid _ := hat10
           have qn : nb ≠ rb := by omega
           clear hown10 hgrow10 hat10 hlt10 happ r0 r1 r2 r3 a0 a1 a2 a3 a4 a5 a6
           obtain ⟨r0, r1, r2, r3⟩ := cells_4 HX10.out
           have hfr := free_4 HX10.out
           obtain ⟨a0, a1, a2, a3, a4, a5, a6⟩ := cells_7 HN10.out))
    all_goals
      go_wp2_with fail
      go_meet
      case rel => exact ⟨rfl, _, HR10.out, (by rcases HAT.out with e | e; · exact .inl (by rw [e]; rfl)
                                               · exact .inr ⟨g, rfl, by have e' : g = w9.heap.size + 1 := e; omega⟩), (HC9.out.mono (fun k _ e => .inr (.inl e))).trans (HC10.out.mono (fun k _ e => e.elim .inl (fun e => .inr (.inr e)))), other_blk HZ10.out (by omega), other_blk HN10.out (by omega)⟩
  case rest =>
    obtain ⟨rfl, chV', HRf, HLf, HCf, HZf, HNf⟩ := hcut
    clear r0 r1 r2 r3 a0 a1 a2 a3 a4 a5 a6
    obtain ⟨a0, a1, a2, a3, a4, a5, a6⟩ := cells_7 HNf.out
    have HRE : Hid _ := result_any p d (v + 1) m st o k (by omega)
    go_wp2_with fail
    refine (HRE.out _).mono ?_
    rintro e w12 ⟨rfl, hb12⟩
    have HR12 : Hid _ := HRf.out.below hb12
    have HC12 : Hid _ := HCf.out.trans (Chg.of_below hb12 _)
    have HZ12 : Hid _ := kept_block hb12 HZf.out
    clear hb12 a0 a1 a2 a3 a4 a5 a6
    obtain ⟨b0, b1, b2, b3, b4, b5, b6⟩ := cells_7 HZ12.out
    have hfz := free_7 HZ12.out
    go_wp2_with fail
    have hgb : ∀ k, chV'.ownBlock = some k → ¬ k = zb := fun k hk e => by
      obtain ⟨cur, hcur⟩ := owns_kind HR12.out.row hk
      rw [e, HZ12.out] at hcur
      simp at hcur
    refine bodyPost_ret (results_cell1 rfl _ _ zb 40 _ (0, 0) _ rfl (fill_7 HZ12.out) Tryz.underlying40 rfl (by kernel_rfl)) rfl ⟨rfl, chV', HR12.out.chg putC_7 (by omega) (by omega) hgb, HLf.out, ?_⟩
    exact ((HC12.out.mono (S' := fun k => (k = rb ∨ k = mb ∨ chV.ownBlock = some k) ∨ k = zb) (fun _ _ h => .inl h)).trans (putC_7.mono (fun _ _ h => .inr h))).mono (fun k hk h => h.elim id (fun e => absurd hk (by omega)))
end Go.Proofs.YtliafokjdngejaaGreatDoor
