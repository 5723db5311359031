/-
  tree: set.
-/
import Derived.Test.YthelfbdkbldhjaaGreatDoorTMake
import Derived.Test.YthelfbdkbldhjaaGreatDoorRows
import Derived.WalkKit
import Derived.ProofKit
import Derived.BigQuiet
import Derived.Deep.QuietTactic
namespace Go.Proofs.YthelfbdkbldhjaaGreatDoor
open Go.RowKit Go.Maps
set_option linter.unusedVariables false
set_option linter.unusedSimpArgs false
attribute [local go_sem ↓] Go.wp_at_zero Go.wp_at_succ

theorem results_cell1 {P : Program} {fn : Func} {p : Tmp} {ty : TypeId} (h : fn.results = #[.cell p ty]) (tmps : Array Value) (w : World) (g : Nat) (t : TypeId) (cs : Array Value) (fr : Nat × Nat) (d : TypeDesc)
    (hp : tmps.getD p undef = .pointer (some ⟨g, 0, none⟩)) (hg : w.heap[g]? = some (.cells cs t fr))
    (hu : P.underlying ty = some d) (hd : (match d with | .struct _ | .array _ _ => true | _ => false) = true) (hi : (P.info? ty).map (·.size) = some cs.size) :
    (results fn tmps).run P w = .ok (.agg cs) w := by
  have hp' : tmps[p]?.getD undef = .pointer (some ⟨g, 0, none⟩) := by simpa using hp
  simp [results, h, hp', asAddr, run_loadVar_row w g t ty cs fr d hg hu hd hi]
set_option maxHeartbeats 16000000 in
set_option maxRecDepth 100000 in
theorem set_any (base rb mb n : Nat) (D : DataW Value) (s st : Int) (chV : Value) (cn : Nat) (cs : List Value) (p d0 d : ByteArray) (v m c o k : Int) (w : World)
    (hR : ReqAt w base rb mb n D s st chV cn cs) (hv : -1000 ≤ v ∧ v < 2147483647) (h1 : p.size ≤ 1000) (h2 : d.size ≤ 1000) (hn : n ≤ 10000) (hcn : cn ≤ 1000) :
    Calls Tryz.prog 64 #[.pointer (some ⟨rb, 0, none⟩), fuV p d0 v m c o k, .string d] w fun e w' => e = .returned (.agg #[.string p, .string ⟨#[]⟩, .int .i64 (v + 1), .int .i64 m, .int .i64 st, .int .i64 o, .slice none 0 0]) ∧
      ∃ chV', ReqAt w' base rb mb (n + 1) (D.put (ky p) (.held (fuV p d (v + 1) m st o k))) s st chV' (cn + 1) (cs ++ [.int .i64 2, .string p, .string d, .int .i64 (v + 1)]) ∧ (chV'.ownBlock = chV.ownBlock ∨ ∃ g, chV'.ownBlock = some g ∧ w.heap.size ≤ g) ∧ Chg w w' (fun k => k = rb ∨ k = mb ∨ chV.ownBlock = some k) := by
  have hvw : IntKind.i64.wrap (v + 1) = v + 1 := by rw [IntKind.wrap_i64]; omega
  clear hv
  obtain ⟨i0, hi0, hz0, hz1, hz2⟩ := info_parts Tryz.infoC
  have HR : Hid _ := hR
  have hrl := hR.lt.1
  have hml := hR.lt.2
  obtain ⟨nb, hnb⟩ : ∃ nb, w.heap.size = nb := ⟨_, rfl⟩
  obtain ⟨zb, hzb⟩ : ∃ zb, w.heap.size + 1 = zb := ⟨_, rfl⟩
  have hnz : nb ≠ zb ∧ rb ≠ nb ∧ rb ≠ zb ∧ mb ≠ nb ∧ mb ≠ zb := by refine ⟨?_, ?_, ?_, ?_, ?_⟩ <;> omega
  obtain ⟨hnz1, hnz2, hnz3, hnz4, hnz5⟩ := hnz
  clear hR
  obtain ⟨W1, hW1⟩ : ∃ x, (w.alloc (.cells #[.string p, .string d0, .int .i64 v, .int .i64 m, .int .i64 c, .int .i64 o, .int .i64 k] 45)).alloc (.cells #[.string ⟨#[]⟩, .string ⟨#[]⟩, .int .i64 0, .int .i64 0, .int .i64 0, .int .i64 0, .slice none 0 0] 87) = x := ⟨_, rfl⟩
  have HB1 : Hid (Below w.heap.size w W1) := by rw [← hW1]; exact ((Below.refl _ _).alloc (Nat.le_refl _) _).alloc (by simp) _
  have HN1 : Hid (W1.heap[nb]? = some (.cells #[.string p, .string d0, .int .i64 v, .int .i64 m, .int .i64 c, .int .i64 o, .int .i64 k] 45 (0, 0))) := by rw [← hW1, ← hnb]; exact heap_alloc2_old _ _ _
  have HZ1 : Hid (W1.heap[zb]? = some (.cells #[.string ⟨#[]⟩, .string ⟨#[]⟩, .int .i64 0, .int .i64 0, .int .i64 0, .int .i64 0, .slice none 0 0] 87 (0, 0))) := by rw [← hW1, ← hzb]; exact heap_alloc2_new _ _ _
  have HR1 : Hid _ := HR.out.below HB1.out
  have HW1 : Hid _ := hW1
  have HNB : Hid (w.heap.size = nb) := hnb
  have HZB : Hid (w.heap.size + 1 = zb) := hzb
  have hnbl : w.heap.size ≤ nb := by omega
  have hzbl : w.heap.size ≤ zb := by omega
  clear hW1 hnb hzb
  go_enter Tryz.func64, Tryz.ntmps64
  go_upto_region 1 with fail
  rw [HW1.out, HZB.out, HNB.out]
  obtain ⟨r0, r1, r2, r3⟩ := cells_4 HR1.out.box
  obtain ⟨a0, a1, a2, a3, a4, a5, a6⟩ := cells_7 HN1.out
  have hfn := free_7 HN1.out
  go_upto_region 4 with fail
  obtain ⟨w6, hw6⟩ : ∃ x, ((W1.setCell ⟨nb, 1, none⟩ (.string d)).setCell ⟨nb, 2, none⟩ (.int .i64 (v + 1))).setCell ⟨nb, 4, none⟩ (.int .i64 st) = x := ⟨_, rfl⟩
  rw [hw6]
  have hb6 : Below w.heap.size W1 w6 := by rw [← hw6]; exact (((Below.refl _ _).setCell (by show w.heap.size ≤ nb; omega) _).setCell (by show w.heap.size ≤ nb; omega) _).setCell (by show w.heap.size ≤ nb; omega) _
  have HB6 : Hid (Below w.heap.size w w6) := HB1.out.trans hb6
  have HR6 : Hid _ := HR.out.below HB6.out
  have HN6 : Hid (w6.heap[nb]? = some (.cells #[.string p, .string d, .int .i64 (v + 1), .int .i64 m, .int .i64 st, .int .i64 o, .int .i64 k] 45 (0, 0))) := by rw [← hw6]; exact same_blk (same_blk (same_blk HN1.out rfl) rfl) rfl
  have HZ6 : Hid _ := other_blk (other_blk (other_blk HZ1.out (Ne.symm hnz1) (i := 1) (v := .string d)) (Ne.symm hnz1) (i := 2) (v := .int .i64 (v + 1))) (Ne.symm hnz1) (i := 4) (v := .int .i64 st)
  rw [hw6] at HZ6
  clear hw6 hb6 r0 r1 r2 r3 a0 a1 a2 a3 a4 a5 a6 hfn
  obtain ⟨r0, r1, r2, r3⟩ := cells_4 HR6.out.box
  obtain ⟨a0, a1, a2, a3, a4, a5, a6⟩ := cells_7 HN6.out
  go_wp2_with fail
  have HM8 : Hid _ := put_any mb n D p d (v + 1) m st o k (by omega) (by omega) w6.drew (HR6.out.below (below_drew (Below.refl _ _))).map (by omega)
  go_region_held3 (fun w' => w'.cell? ⟨rb, 2, none⟩ = some (.map (some mb)) ∧ w'.cell? ⟨nb, 0, none⟩ = some (.string p) ∧ w'.cell? ⟨nb, 1, none⟩ = some (.string d) ∧ w'.cell? ⟨nb, 2, none⟩ = some (.int .i64 (v + 1)) ∧ w'.cell? ⟨nb, 3, none⟩ = some (.int .i64 m) ∧ w'.cell? ⟨nb, 4, none⟩ = some (.int .i64 st) ∧ w'.cell? ⟨nb, 5, none⟩ = some (.int .i64 o) ∧ w'.cell? ⟨nb, 6, none⟩ = some (.int .i64 k)) (first | (simp only [World.cell?_drew, r2, a0, a1, a2, a3, a4, a5, a6, and_self]) | go_keep)
    (first
      | (go_at_call 49; refine Calls.mono HM8.out ?_; rintro e w8 ⟨rfl, hm8, hc8⟩
         have HR8 : Hid _ := (HR6.out.below (below_drew (Below.refl _ _))).put hm8 hc8
         have HC8 : Hid (Chg w w8 (fun k => k = mb)) := (Chg.of_below (below_drew HB6.out) _).trans hc8
         have HZ8 : Hid _ := kept_chg hc8 HZ6.out (by omega)
         have HN8 : Hid _ := kept_chg hc8 HN6.out (by omega)
         clear hm8 hc8 r0 r1 r2 r3 a0 a1 a2 a3 a4 a5 a6
         obtain ⟨r0, r1, r2, r3⟩ := cells_4 HR8.out.box
         obtain ⟨a0, a1, a2, a3, a4, a5, a6⟩ := cells_7 HN8.out))
  go_wp2_with fail
  have HCH : Hid _ := change_any p d (v + 1) m st o k 2 (by omega) (by omega)
  have hbn : base ≤ w8.heap.size := HR8.out.base_le
  have HEN : Hid (∀ args w, (callFunc 66 args).run Tryz.prog w = .ok (.enter 66 args) w) := enters_of Tryz.func66 (by kernel_rfl) rfl
  have hnl8 : nb < w8.heap.size := (Array.getElem?_eq_some_iff.1 HN8.out).1
  go_cut [4] from 7 (fun s4 wc => s4 = .pointer (some ⟨nb, 0, none⟩) ∧ ∃ chV', Hid (ReqAt wc base rb mb (n + 1) (D.put (ky p) (.held (fuV p d (v + 1) m st o k))) s st chV' (cn + 1) (cs ++ [.int .i64 2, .string p, .string d, .int .i64 (v + 1)])) ∧ Hid (chV'.ownBlock = chV.ownBlock ∨ ∃ g, chV'.ownBlock = some g ∧ w.heap.size ≤ g) ∧ Hid (Chg w wc (fun k => k = rb ∨ k = mb ∨ chV.ownBlock = some k)) ∧ Hid (wc.heap[zb]? = some (.cells #[.string ⟨#[]⟩, .string ⟨#[]⟩, .int .i64 0, .int .i64 0, .int .i64 0, .int .i64 0, .slice none 0 0] 87 (0, 0))) ∧ Hid (wc.heap[nb]? = some (.cells #[.string p, .string d, .int .i64 (v + 1), .int .i64 m, .int .i64 st, .int .i64 o, .int .i64 k] 45 (0, 0))))
  case first =>
    go_region_law
      (first
        | (refine step_call2 (by rfl) 66 _ _ _ (by rfl) HEN.out (fuV p d (v + 1) m st o k) (.int .i64 2) (by rfl) (by rfl) (HCH.out _) (.agg #[.int .i64 2, .string p, .string d, .int .i64 (v + 1)]) (fun _ _ h => h.1) ?_
           intro w9 hR9
           have hb9 := hR9.2
           clear hR9
           have hb9' := of_drew hb9
           have HR9 : Hid _ := HR8.out.below hb9'
           have HC9 : Hid _ := HC8.out.trans (Chg.of_below hb9' _)
           have HZ9 : Hid _ := kept_block hb9' HZ8.out
           have HN9 : Hid _ := kept_block hb9' HN8.out
           have hrl9 : rb < w9.heap.size := HR9.out.lt.1
           have hnl9 : nb < w9.heap.size := (Array.getElem?_eq_some_iff.1 HN9.out).1
           have hzl9 : zb < w9.heap.size := (Array.getElem?_eq_some_iff.1 HZ9.out).1
           have qr : rb ≠ w9.heap.size := by omega
           have qn9 : nb ≠ w9.heap.size := by omega
           have hba9 : base ≤ w9.heap.size := HR9.out.base_le
           clear hb9 hb9' r0 r1 r2 r3 a0 a1 a2 a3 a4 a5 a6
           obtain ⟨r0, r1, r2, r3⟩ := cells_4 HR9.out.box
           obtain ⟨a0, a1, a2, a3, a4, a5, a6⟩ := cells_7 HN9.out)
        | (refine step_append_lies _ (by rfl) _ _ _ (by rfl) base 85 i0 _ 4 48 Tryz.underlying55 hi0 hz0 hz1 hz2 rfl (by omega) chV cn cs (by rfl) (World.ownsRow.alloc HR9.out.row _) ⟨w9.heap.size, 0, none⟩ 1 1 [.int .i64 2, .string p, .string d, .int .i64 (v + 1)] (by rfl) (by rfl) (World.news_of_block (cs := #[.int .i64 2, .string p, .string d, .int .i64 (v + 1)]) (t := 85) (fr := (0, 0)) (heap_alloc_new w9 _)) (by simp [Value.oneCell']) (by omega) (by unfold maxLen; omega) (by omega) (by simp; omega) (w9.heap.size + 1) (by simp) ?_
           intro g cap w10 hown10 hgrow10 hat10 hlt10
           have happ := ReqAt.appended HR9.out hown10 hgrow10
           have HX10 : Hid _ := happ.1
           have HR10 : Hid _ := happ.2.1
           have HC10 : Hid _ := happ.2.2
           have HN10 : Hid (w10.heap[nb]? = some (.cells #[.string p, .string d, .int .i64 (v + 1), .int .i64 m, .int .i64 st, .int .i64 o, .int .i64 k] 45 (0, 0))) := by
             refine kept_chg ((Chg.alloc w9 _ _).trans (Chg.grown hgrow10)) HN9.out (fun e => ?_)
             obtain ⟨cur, hcur⟩ := owns_kind HR9.out.row e
             rw [HN9.out] at hcur
             simp at hcur
           have HZ10 : Hid (w10.heap[zb]? = some (.cells #[.string ⟨#[]⟩, .string ⟨#[]⟩, .int .i64 0, .int .i64 0, .int .i64 0, .int .i64 0, .slice none 0 0] 87 (0, 0))) := by
             refine kept_chg ((Chg.alloc w9 _ _).trans (Chg.grown hgrow10)) HZ9.out (fun e => ?_)
             obtain ⟨cur, hcur⟩ := owns_kind HR9.out.row e
             rw [HZ9.out] at hcur
             simp at hcur
           have HAT : Hid _ := hat10
           have qn : nb ≠ rb := by omega
           clear hown10 hgrow10 hat10 hlt10 happ r0 r1 r2 r3 a0 a1 a2 a3 a4 a5 a6
           obtain ⟨r0, r1, r2, r3⟩ := cells_4 HX10.out
           have hfr := free_4 HX10.out
           obtain ⟨a0, a1, a2, a3, a4, a5, a6⟩ := cells_7 HN10.out))
    all_goals
      go_wp2_with fail
      go_meet
      case rel => exact ⟨rfl, _, HR10.out, (by rcases HAT.out with e | e; · exact .inl (by rw [e]; rfl)
                                               · exact .inr ⟨g, rfl, by have e' : g = w9.heap.size + 1 := e; omega⟩), (HC9.out.mono (fun k _ e => .inr (.inl e))).trans (HC10.out.mono (fun k _ e => e.elim .inl (fun e => .inr (.inr e)))), other_blk HZ10.out (by omega), other_blk HN10.out (by omega)⟩
  case rest =>
    obtain ⟨rfl, chV', HRf, HLf, HCf, HZf, HNf⟩ := hcut
    clear r0 r1 r2 r3 a0 a1 a2 a3 a4 a5 a6
    obtain ⟨a0, a1, a2, a3, a4, a5, a6⟩ := cells_7 HNf.out
    have HRE : Hid _ := result_any p d (v + 1) m st o k (by omega)
    go_wp2_with fail
    refine (HRE.out _).mono ?_
    rintro e w12 ⟨rfl, hb12⟩
    have HR12 : Hid _ := HRf.out.below hb12
    have HC12 : Hid _ := HCf.out.trans (Chg.of_below hb12 _)
    have HZ12 : Hid _ := kept_block hb12 HZf.out
    clear hb12 a0 a1 a2 a3 a4 a5 a6
    obtain ⟨b0, b1, b2, b3, b4, b5, b6⟩ := cells_7 HZ12.out
    have hfz := free_7 HZ12.out
    go_wp2_with fail
    have hgb : ∀ k, chV'.ownBlock = some k → ¬ k = zb := fun k hk e => by
      obtain ⟨cur, hcur⟩ := owns_kind HR12.out.row hk
      rw [e, HZ12.out] at hcur
      simp at hcur
    refine bodyPost_ret (results_cell1 rfl _ _ zb 87 _ (0, 0) _ rfl (fill_7 HZ12.out) Tryz.underlying87 rfl (by kernel_rfl)) rfl ⟨rfl, chV', HR12.out.chg putC_7 (by omega) (by omega) hgb, HLf.out, ?_⟩
    exact ((HC12.out.mono (S' := fun k => (k = rb ∨ k = mb ∨ chV.ownBlock = some k) ∨ k = zb) (fun _ _ h => .inl h)).trans (putC_7.mono (fun _ _ h => .inr h))).mono (fun k hk h => h.elim id (fun e => absurd hk (by omega)))
end Go.Proofs.YthelfbdkbldhjaaGreatDoor
namespace Go.Proofs.YthelfbdkbldhjaaGreatDoor
open Go.RowKit

/-- A byte's weight in the order: the slash ahead of all. -/
def rk (c : UInt8) : Int := if c.toNat = 47 then -1 else (c.toNat : Int)

/-- -1, 0, 1 of two numbers. -/
def sg (x y : Int) : Int := if x < y then -1 else if y < x then 1 else 0

theorem rank_any (c : UInt8) (w : World) :
    Calls Tryz.prog 75 #[.int .u8 (c.toNat : Int)] w fun e w' => e = .returned (.int .i64 (rk c)) ∧ w' = w := by
  unfold rk
  by_cases h : c.toNat = 47
  · rw [if_pos h]
    go_enter Tryz.func75, Tryz.ntmps75
    go_wp2
    go_ret
    exact ⟨rfl, rfl⟩
  · rw [if_neg h]
    have h1 : ((c.toNat : Int) == 47) = false := by simp; omega
    have h2 : (c.toNat : Int) < 256 := by have := c.toNat_lt; omega
    go_enter Tryz.func75, Tryz.ntmps75
    go_wp2
    go_ret
    exact ⟨rfl, rfl⟩

theorem compare_any (x y : Int) (w : World) :
    Calls Tryz.prog 74 #[.int .i64 x, .int .i64 y] w fun e w' => e = .returned (.int .i64 (sg x y)) ∧ w' = w := by
  unfold sg
  by_cases h : x < y
  · rw [if_pos h]
    go_enter Tryz.func74, Tryz.ntmps74
    go_wp2
    go_ret
    exact ⟨rfl, rfl⟩
  · rw [if_neg h]
    by_cases h' : y < x
    · rw [if_pos h']
      go_enter Tryz.func74, Tryz.ntmps74
      go_wp2
      go_ret
      exact ⟨rfl, rfl⟩
    · rw [if_neg h']
      go_enter Tryz.func74, Tryz.ntmps74
      go_wp2
      go_ret
      exact ⟨rfl, rfl⟩

/-- The order from place i on. -/
def ordF (a b : ByteArray) : Nat → Nat → Int
  | 0, _ => 0
  | n + 1, i => if i < a.size ∧ i < b.size then
      (if (a.get! i).toNat = (b.get! i).toNat then ordF a b n (i + 1) else sg (rk (a.get! i)) (rk (b.get! i)))
    else sg (a.size : Int) (b.size : Int)

theorem ordF_go (a b : ByteArray) (n i : Nat) (h1 : i < a.size) (h2 : i < b.size) (e : (a.get! i).toNat = (b.get! i).toNat) : ordF a b (n + 1) i = ordF a b n (i + 1) := by
  show (if _ then _ else _) = _
  rw [if_pos ⟨h1, h2⟩, if_pos e]
theorem ordF_part (a b : ByteArray) (n i : Nat) (h1 : i < a.size) (h2 : i < b.size) (e : ¬ (a.get! i).toNat = (b.get! i).toNat) : ordF a b (n + 1) i = sg (rk (a.get! i)) (rk (b.get! i)) := by
  show (if _ then _ else _) = _
  rw [if_pos ⟨h1, h2⟩, if_neg e]
theorem ordF_end (a b : ByteArray) (n i : Nat) (h : ¬ (i < a.size ∧ i < b.size)) : ordF a b (n + 1) i = sg (a.size : Int) (b.size : Int) := by
  show (if _ then _ else _) = _
  rw [if_neg h]

theorem get!_at (a : ByteArray) (i : Nat) (h : i < a.size) : a.get! i = a[i] := by
  simp [ByteArray.get!, getElem!_pos, h]
  rfl

theorem same_byte (a b : ByteArray) (k : Nat) (h1 : k < a.size) (h2 : k < b.size) (h : ((a[k].toNat : Int) != (b[k].toNat : Int)) = false) : (a.get! k).toNat = (b.get! k).toNat := by
  rw [get!_at a k h1, get!_at b k h2]
  have h3 : (a[k].toNat : Int) = (b[k].toNat : Int) := by simpa using h
  omega
theorem other_byte (a b : ByteArray) (k : Nat) (h1 : k < a.size) (h2 : k < b.size) (h : ((a[k].toNat : Int) != (b[k].toNat : Int)) = true) : ¬ (a.get! k).toNat = (b.get! k).toNat := by
  rw [get!_at a k h1, get!_at b k h2]
  intro e
  simp [e] at h

theorem order_any (a b : ByteArray) (ha : a.size ≤ maxLen) (hb : b.size ≤ maxLen) (w : World) :
    Calls Tryz.prog 47 #[.string a, .string b] w fun e w' => e = .returned (.int .i64 (ordF a b (min a.size b.size + 1) 0)) ∧ ∃ m, w' = w.drewN m := by
  unfold maxLen at ha hb
  go_enter Tryz.func47, Tryz.ntmps47
  go_wp2
  all_goals (
    go_loopw [11] (fun i wr => ∃ k m : Nat, i = .int .i64 k ∧ wr = w.drewN m ∧ k ≤ min a.size b.size ∧ ordF a b (min a.size b.size + 1 - k) k = ordF a b (min a.size b.size + 1) 0)
      (fun i _ => min a.size b.size - (intOf i).toNat)
    case atStart => exact ⟨0, 0, rfl, rfl, by omega, by simp⟩
    case round =>
      obtain ⟨k, m, rfl, rfl, hk, hO⟩ := hrel
      have HO : Hid (ordF a b (min a.size b.size + 1 - k) k = ordF a b (min a.size b.size + 1) 0) := hO
      clear hO
      by_cases hlt : k < min a.size b.size
      · have g1 : (k : Int) < (a.size : Int) := by omega
        have g2 : (k : Int) < (b.size : Int) := by omega
        have g3 : k < a.size := by omega
        have g4 : k < b.size := by omega
        go_wp2
        go_quiet (fail)
        go_wp2
        · have hne : ((a[k].toNat : Int) != (b[k].toNat : Int)) = true := by assumption
          go_quiet (first | (go_at_call 75; refine (rank_any _ _).mono fun _ _ h => ⟨h.1, _, h.2⟩) | (go_at_call 74; refine (compare_any _ _ _).mono fun _ _ h => ⟨h.1, _, h.2⟩))
          go_wp2
          go_ret
          refine ⟨?_, _, by rw [World.drewN_drewN, World.drewN_drewN]⟩
          rw [← HO.out, show min a.size b.size + 1 - k = (min a.size b.size - k) + 1 by omega, ordF_part a b _ k g3 g4 (other_byte a b k g3 g4 hne), get!_at a k g3, get!_at b k g4]
          rfl
        · have heq : ((a[k].toNat : Int) != (b[k].toNat : Int)) = false := by assumption
          go_roundw
          case rel => exact ⟨k + 1, m + nq, by go_num, rfl, by omega, by rw [← HO.out, show min a.size b.size + 1 - k = (min a.size b.size - k) + 1 by omega, ordF_go a b _ k g3 g4 (same_byte a b k g3 g4 heq)]; congr 1; omega⟩
          case measure => simp [intOf]; omega
      · first | (have g5 : ¬ k < b.size := by omega) | (have g5 : ¬ k < a.size := by omega)
        go_wp2_with (first | (go_at_call 74; refine (compare_any _ _ _).mono ?_; rintro e w' ⟨rfl, rfl⟩) | go_in)
        go_ret
        refine ⟨?_, _, rfl⟩
        rw [← HO.out, show min a.size b.size + 1 - k = (min a.size b.size - k) + 1 by omega, ordF_end a b _ k (by omega)]
        rfl)


theorem sg_lt {x y : Int} (h : x < y) : sg x y = -1 := by rw [sg, if_pos h]
theorem sg_gt {x y : Int} (h : y < x) : sg x y = 1 := by rw [sg, if_neg (by omega), if_pos h]
theorem sg_eq {x y : Int} (h : x = y) : sg x y = 0 := by rw [sg, if_neg (by omega), if_neg (by omega)]

theorem rk_inj {x y : UInt8} (h : rk x = rk y) : x.toNat = y.toNat := by
  unfold rk at h
  split at h <;> split at h <;> omega

end Go.Proofs.YthelfbdkbldhjaaGreatDoor
namespace Go.Proofs.YthelfbdkbldhjaaGreatDoor

/-- The order of two lists of bytes. -/
def ordL : List UInt8 → List UInt8 → Int
  | [], [] => 0
  | [], _ :: _ => -1
  | _ :: _, [] => 1
  | x :: xs, y :: ys => if x.toNat = y.toNat then ordL xs ys else sg (rk x) (rk y)

theorem drop_at (a : ByteArray) (i : Nat) (h : i < a.size) : a.data.toList.drop i = a.get! i :: a.data.toList.drop (i + 1) := by
  rw [get!_at a i h]
  have h' : i < a.data.toList.length := by simpa using h
  rw [List.drop_eq_getElem_cons h']
  rfl

theorem ordF_list (a b : ByteArray) : ∀ (n i : Nat), i ≤ a.size → i ≤ b.size → min a.size b.size < n + i → ordF a b n i = ordL (a.data.toList.drop i) (b.data.toList.drop i)
  | 0, i, h1, h2, h => by omega
  | n + 1, i, h1, h2, h => by
    by_cases g : i < a.size ∧ i < b.size
    · rw [drop_at a i g.1, drop_at b i g.2]
      by_cases e : (a.get! i).toNat = (b.get! i).toNat
      · rw [ordF_go a b n i g.1 g.2 e, ordL, if_pos e]
        exact ordF_list a b n (i + 1) (by omega) (by omega) (by omega)
      · rw [ordF_part a b n i g.1 g.2 e, ordL, if_neg e]
    · rw [ordF_end a b n i g]
      by_cases ga : i < a.size
      · have hb : i = b.size := by omega
        have e2 : b.data.toList.drop i = [] := List.drop_eq_nil_of_le (by subst hb; exact Nat.le_refl _)
        rw [e2, drop_at a i ga]
        exact sg_gt (by omega)
      · have ha : i = a.size := by omega
        have e1 : a.data.toList.drop i = [] := List.drop_eq_nil_of_le (by subst ha; exact Nat.le_refl _)
        rw [e1]
        by_cases gb : i < b.size
        · rw [drop_at b i gb]
          exact sg_lt (by omega)
        · have hb : i = b.size := by omega
          have e2 : b.data.toList.drop i = [] := List.drop_eq_nil_of_le (by subst hb; exact Nat.le_refl _)
          rw [e2]
          exact sg_eq (by omega)

/-- The order of two texts. -/
def O (a b : ByteArray) : Int := ordF a b (min a.size b.size + 1) 0
theorem O_list (a b : ByteArray) : O a b = ordL a.data.toList b.data.toList := by
  have h := ordF_list a b (min a.size b.size + 1) 0 (Nat.zero_le _) (Nat.zero_le _) (by omega)
  unfold O
  simpa using h

theorem rk_ne {x y : UInt8} (h : ¬ x.toNat = y.toNat) : ¬ rk x = rk y := fun e => h (rk_inj e)

theorem sg_anti (x y : Int) : sg y x = - sg x y := by
  rcases Int.lt_trichotomy x y with h | h | h
  · rw [sg_lt h, sg_gt h]; rfl
  · rw [sg_eq h, sg_eq h.symm]; rfl
  · rw [sg_gt h, sg_lt h]

theorem sg_range (x y : Int) : sg x y = -1 ∨ sg x y = 0 ∨ sg x y = 1 := by
  rcases Int.lt_trichotomy x y with h | h | h
  · exact .inl (sg_lt h)
  · exact .inr (.inl (sg_eq h))
  · exact .inr (.inr (sg_gt h))

theorem ordL_anti : ∀ (s t : List UInt8), ordL t s = - ordL s t
  | [], [] => rfl
  | [], _ :: _ => rfl
  | _ :: _, [] => rfl
  | x :: xs, y :: ys => by
    rw [ordL, ordL]
    by_cases e : x.toNat = y.toNat
    · rw [if_pos e, if_pos e.symm]; exact ordL_anti xs ys
    · rw [if_neg e, if_neg (fun h => e h.symm)]; exact sg_anti _ _

theorem ordL_range : ∀ (s t : List UInt8), ordL s t = -1 ∨ ordL s t = 0 ∨ ordL s t = 1
  | [], [] => .inr (.inl rfl)
  | [], _ :: _ => .inl rfl
  | _ :: _, [] => .inr (.inr rfl)
  | x :: xs, y :: ys => by
    rw [ordL]
    by_cases e : x.toNat = y.toNat
    · rw [if_pos e]; exact ordL_range xs ys
    · rw [if_neg e]; exact sg_range _ _

theorem sg_zero {x y : Int} (h : sg x y = 0) : x = y := by
  rcases Int.lt_trichotomy x y with g | g | g
  · rw [sg_lt g] at h; cases h
  · exact g
  · rw [sg_gt g] at h; cases h

theorem sg_minus {x y : Int} (h : sg x y = -1) : x < y := by
  rcases Int.lt_trichotomy x y with g | g | g
  · exact g
  · rw [sg_eq g] at h; cases h
  · rw [sg_gt g] at h; cases h

theorem ordL_self : ∀ (s : List UInt8), ordL s s = 0
  | [] => rfl
  | x :: xs => by rw [ordL, if_pos rfl]; exact ordL_self xs

theorem ordL_zero : ∀ (s t : List UInt8), ordL s t = 0 → s = t
  | [], [], _ => rfl
  | [], _ :: _, h => by cases h
  | _ :: _, [], h => by cases h
  | x :: xs, y :: ys, h => by
    rw [ordL] at h
    by_cases e : x.toNat = y.toNat
    · rw [if_pos e] at h
      rw [ordL_zero xs ys h, UInt8.toNat_inj.mp e]
    · rw [if_neg e] at h
      exact absurd (sg_zero h) (rk_ne e)

theorem ordL_trans : ∀ (s t u : List UInt8), ordL s t = -1 → ordL t u = -1 → ordL s u = -1
  | [], [], _, h, _ => by cases h
  | [], _ :: _, [], _, h => by cases h
  | [], _ :: _, _ :: _, _, _ => rfl
  | _ :: _, [], _, h, _ => by cases h
  | _ :: _, _ :: _, [], _, h => by cases h
  | x :: xs, y :: ys, z :: zs, h, g => by
    rw [ordL] at h g ⊢
    by_cases e : x.toNat = y.toNat
    · rw [if_pos e] at h
      by_cases f : y.toNat = z.toNat
      · rw [if_pos f] at g
        rw [if_pos (e.trans f)]
        exact ordL_trans xs ys zs h g
      · rw [if_neg f] at g
        rw [if_neg (by omega), UInt8.toNat_inj.mp e]
        exact g
    · rw [if_neg e] at h
      by_cases f : y.toNat = z.toNat
      · rw [if_neg (by omega), ← UInt8.toNat_inj.mp f]
        exact h
      · rw [if_neg f] at g
        have h1 := sg_minus h
        have h2 := sg_minus g
        have h3 : ¬ x.toNat = z.toNat := fun e3 => by rw [UInt8.toNat_inj.mp e3] at h1; omega
        rw [if_neg h3]
        exact sg_lt (by omega)

theorem O_anti (a b : ByteArray) : O b a = - O a b := by rw [O_list, O_list]; exact ordL_anti _ _
theorem O_range (a b : ByteArray) : O a b = -1 ∨ O a b = 0 ∨ O a b = 1 := by rw [O_list]; exact ordL_range _ _
theorem O_self (a : ByteArray) : O a a = 0 := by rw [O_list]; exact ordL_self _
theorem O_zero {a b : ByteArray} (h : O a b = 0) : a = b := by
  rw [O_list] at h
  have := ordL_zero _ _ h
  cases a; cases b
  simp only at this
  rw [Array.toList_inj.mp this]
theorem O_trans {a b c : ByteArray} (h : O a b = -1) (g : O b c = -1) : O a c = -1 := by
  rw [O_list] at h g ⊢
  exact ordL_trans _ _ _ h g

theorem order_O (a b : ByteArray) (ha : a.size ≤ maxLen) (hb : b.size ≤ maxLen) (w : World) :
    Calls Tryz.prog 47 #[.string a, .string b] w fun e w' => e = .returned (.int .i64 (O a b)) ∧ ∃ m, w' = w.drewN m := order_any a b ha hb w

end Go.Proofs.YthelfbdkbldhjaaGreatDoor
