/-
  tree: drop.
-/
import Derived.Test.YthelfbdkbldhjaaGreatDoorLine
import Derived.Maps.OwnSet
import Derived.Test.YthelfbdkbldhjaaGreatDoorTMal
import Derived.Lib.QuoteBits
import Derived.Test.YthelfbdkbldhjaaGreatDoorTOne
import Derived.Test.YthelfbdkbldhjaaGreatDoorTMakeC
namespace Go.Proofs.YthelfbdkbldhjaaGreatDoor
open Go.RowKit Go.Maps
set_option linter.unusedVariables false
set_option linter.unusedSimpArgs false
attribute [local go_sem ↓] Go.wp_at_zero Go.wp_at_succ

set_option maxHeartbeats 16000000 in
set_option maxRecDepth 100000 in
theorem drop_any (base rb mb n : Nat) (D : DataW Value) (s st : Int) (chV : Value) (cn : Nat) (cs : List Value) (p d0 : ByteArray) (v m c o k : Int) (w : World)
    (hR : ReqAt w base rb mb n D s st chV cn cs) (h1 : p.size ≤ 1000) (hn : n ≤ 10000) (hcn : cn ≤ 1000) :
    Calls Tryz.prog 39 #[.pointer (some ⟨rb, 0, none⟩), fuV p d0 v m c o k] w fun e w' => e = .returned (.agg #[.string p, .string ⟨#[]⟩, .int .i64 0, .int .i64 0, .int .i64 0, .int .i64 0, .slice none 0 0]) ∧
      ∃ chV', ReqAt w' base rb mb n (D.del (ky p)) s st chV' (cn + 1) (cs ++ [.int .i64 3, .string p, .string ⟨#[]⟩, .int .i64 v]) ∧ (chV'.ownBlock = chV.ownBlock ∨ ∃ g, chV'.ownBlock = some g ∧ w.heap.size ≤ g) ∧ Chg w w' (fun k => k = rb ∨ k = mb ∨ chV.ownBlock = some k) := by
  obtain ⟨i0, hi0, hz0, hz1, hz2⟩ := info_parts Tryz.infoC
  have HR : Hid _ := hR
  have hrl := hR.lt.1
  have hml := hR.lt.2
  obtain ⟨nb, hnb⟩ : ∃ nb, w.heap.size = nb := ⟨_, rfl⟩
  obtain ⟨zb, hzb⟩ : ∃ zb, w.heap.size + 1 = zb := ⟨_, rfl⟩
  have hnz : nb ≠ zb ∧ rb ≠ nb ∧ rb ≠ zb ∧ mb ≠ nb ∧ mb ≠ zb := by refine ⟨?_, ?_, ?_, ?_, ?_⟩ <;> omega
  obtain ⟨hnz1, hnz2, hnz3, hnz4, hnz5⟩ := hnz
  clear hR
  obtain ⟨W1, hW1⟩ : ∃ x, (w.alloc (.cells #[.string p, .string d0, .int .i64 v, .int .i64 m, .int .i64 c, .int .i64 o, .int .i64 k] 45)).alloc (.cells #[.string ⟨#[]⟩, .string ⟨#[]⟩, .int .i64 0, .int .i64 0, .int .i64 0, .int .i64 0, .slice none 0 0] 87) = x := ⟨_, rfl⟩
  have HB1 : Hid (Below w.heap.size w W1) := by rw [← hW1]; exact ((Below.refl _ _).alloc (Nat.le_refl _) _).alloc (by simp) _
  have HN1 : Hid (W1.heap[nb]? = some (.cells #[.string p, .string d0, .int .i64 v, .int .i64 m, .int .i64 c, .int .i64 o, .int .i64 k] 45 (0, 0))) := by rw [← hW1, ← hnb]; exact heap_alloc2_old _ _ _
  have HZ1 : Hid (W1.heap[zb]? = some (.cells #[.string ⟨#[]⟩, .string ⟨#[]⟩, .int .i64 0, .int .i64 0, .int .i64 0, .int .i64 0, .slice none 0 0] 87 (0, 0))) := by rw [← hW1, ← hzb]; exact heap_alloc2_new _ _ _
  have HR1 : Hid _ := HR.out.below HB1.out
  have HW1 : Hid _ := hW1
  have HNB : Hid (w.heap.size = nb) := hnb
  have HZB : Hid (w.heap.size + 1 = zb) := hzb
  have hnbl : w.heap.size ≤ nb := by omega
  have hzbl : w.heap.size ≤ zb := by omega
  clear hW1 hnb hzb
  have hkey : keyOf Tryz.prog 9 (.string p) = some (ky p) := WideMaps.keyOf_string_mk Tryz.underlying9 (by unfold maxLen; omega)
  obtain ⟨w2, hrun, hown2, hturn2⟩ := (HR1.out.below (below_drew (Below.refl _ _))).map.drop keyed Tryz.underlying47 hkey 0
  have hc2 : Chg W1.drew w2 (fun k => k = mb) := (Chg.grown hturn2.grown).mono (fun k _ e => by cases e; rfl)
  have HR2 : Hid _ := (HR1.out.below (below_drew (Below.refl _ _))).put hown2 hc2
  have HC2 : Hid (Chg w w2 (fun k => k = mb)) := (Chg.of_below (below_drew HB1.out) _).trans hc2
  have HN2 : Hid _ := kept_chg hc2 HN1.out (fun e => hnz4 e.symm)
  have HZ2 : Hid _ := kept_chg hc2 HZ1.out (fun e => hnz5 e.symm)
  clear hown2 hturn2 hc2 hkey
  go_enter Tryz.func39, Tryz.ntmps39
  go_upto_region 1 with fail
  rw [HW1.out, HZB.out, HNB.out]
  obtain ⟨r0, r1, r2, r3⟩ := cells_4 HR1.out.box
  obtain ⟨a0, a1, a2, a3, a4, a5, a6⟩ := cells_7 HN1.out
  go_region_held3 (fun w' => w'.cell? ⟨rb, 2, none⟩ = some (.map (some mb)) ∧ w'.cell? ⟨nb, 0, none⟩ = some (.string p)) (first | (simp only [World.cell?_drew, r2, a0, and_self]) | exact ⟨(cells_4 HR2.out.box).2.2.1, (cells_7 HN2.out).1⟩ | go_keep) (fail)
  clear r0 r1 r2 r3 a0 a1 a2 a3 a4 a5 a6 hrun
  obtain ⟨a0, a1, a2, a3, a4, a5, a6⟩ := cells_7 HN2.out
  have hfn := free_7 HN2.out
  go_upto_region 3 with fail
  obtain ⟨w8, hw8⟩ : ∃ x, w2.setCell ⟨nb, 1, none⟩ (.string ⟨#[]⟩) = x := ⟨_, rfl⟩
  rw [hw8]
  have HC8 : Hid (Chg w w8 (fun k => k = mb)) := by rw [← hw8]; exact (((HC2.out.mono (S' := fun k => k = mb ∨ k = nb) (fun _ _ h => .inl h)).trans ((Chg.set w2 ⟨nb, 1, none⟩ _).mono (fun _ _ h => .inr h))).mono (fun k hk h => h.elim id (fun e => absurd hk (by have e' : k = nb := e; omega))))
  have HR8 : Hid _ := HR2.out.chg (Chg.set w2 ⟨nb, 1, none⟩ (.string ⟨#[]⟩)) (fun e => hnz2 e) (fun e => hnz4 e) (fun k hk e => by
    have e' : k = nb := e
    subst e'
    obtain ⟨cur, hcur⟩ := owns_kind HR2.out.row hk
    rw [HN2.out] at hcur
    simp at hcur)
  have HN8 : Hid (w8.heap[nb]? = some (.cells #[.string p, .string ⟨#[]⟩, .int .i64 v, .int .i64 m, .int .i64 c, .int .i64 o, .int .i64 k] 45 (0, 0))) := by rw [← hw8]; exact same_blk HN2.out rfl
  have HZ8 : Hid _ := other_blk HZ2.out (Ne.symm hnz1) (i := 1) (v := .string ⟨#[]⟩)
  rw [hw8] at HR8 HZ8
  clear hw8 a0 a1 a2 a3 a4 a5 a6 hfn
  obtain ⟨r0, r1, r2, r3⟩ := cells_4 HR8.out.box
  obtain ⟨a0, a1, a2, a3, a4, a5, a6⟩ := cells_7 HN8.out
  go_wp2_with fail
  have HCH : Hid _ := change_any p ⟨#[]⟩ v m c o k 3 (by omega) (by show 0 ≤ _; omega)
  have hbn : base ≤ w8.heap.size := HR8.out.base_le
  have HEN : Hid (∀ args w, (callFunc 66 args).run Tryz.prog w = .ok (.enter 66 args) w) := enters_of Tryz.func66 (by kernel_rfl) rfl
  have hnl8 : nb < w8.heap.size := (Array.getElem?_eq_some_iff.1 HN8.out).1
  go_cut [3] from 5 (fun s3 wc => s3 = .pointer (some ⟨nb, 0, none⟩) ∧ ∃ chV', Hid (ReqAt wc base rb mb n (D.del (ky p)) s st chV' (cn + 1) (cs ++ [.int .i64 3, .string p, .string ⟨#[]⟩, .int .i64 v])) ∧ Hid (chV'.ownBlock = chV.ownBlock ∨ ∃ g, chV'.ownBlock = some g ∧ w.heap.size ≤ g) ∧ Hid (Chg w wc (fun k => k = rb ∨ k = mb ∨ chV.ownBlock = some k)) ∧ Hid (wc.heap[zb]? = some (.cells #[.string ⟨#[]⟩, .string ⟨#[]⟩, .int .i64 0, .int .i64 0, .int .i64 0, .int .i64 0, .slice none 0 0] 87 (0, 0))) ∧ Hid (wc.heap[nb]? = some (.cells #[.string p, .string ⟨#[]⟩, .int .i64 v, .int .i64 m, .int .i64 c, .int .i64 o, .int .i64 k] 45 (0, 0))))
  case first =>
    go_region_law
      (first
        | (refine step_call2 (by rfl) 66 _ _ _ (by rfl) HEN.out (fuV p ⟨#[]⟩ v m c o k) (.int .i64 3) (by rfl) (by rfl) (HCH.out _) (.agg #[.int .i64 3, .string p, .string ⟨#[]⟩, .int .i64 v]) (fun _ _ h => h.1) ?_
           intro w9 hR9
           have hb9 := hR9.2
           clear hR9
           have hb9' := of_drew hb9
           have HR9 : Hid _ := HR8.out.below hb9'
           have HC9 : Hid _ := HC8.out.trans (Chg.of_below hb9' _)
           have HZ9 : Hid _ := kept_block hb9' HZ8.out
           have HN9 : Hid _ := kept_block hb9' HN8.out
           have hrl9 : rb < w9.heap.size := HR9.out.lt.1
           have hnl9 : nb < w9.heap.size := (Array.getElem?_eq_some_iff.1 HN9.out).1
           have hzl9 : zb < w9.heap.size := (Array.getElem?_eq_some_iff.1 HZ9.out).1
           have qr : rb ≠ w9.heap.size := by omega
           have qn9 : nb ≠ w9.heap.size := by omega
           have hba9 : base ≤ w9.heap.size := HR9.out.base_le
           clear hb9 hb9' r0 r1 r2 r3 a0 a1 a2 a3 a4 a5 a6
           obtain ⟨r0, r1, r2, r3⟩ := cells_4 HR9.out.box
           obtain ⟨a0, a1, a2, a3, a4, a5, a6⟩ := cells_7 HN9.out)
        | (refine step_append_lies _ (by rfl) _ _ _ (by rfl) base 85 i0 _ 4 48 Tryz.underlying55 hi0 hz0 hz1 hz2 rfl (by omega) chV cn cs (by rfl) (World.ownsRow.alloc HR9.out.row _) ⟨w9.heap.size, 0, none⟩ 1 1 [.int .i64 3, .string p, .string ⟨#[]⟩, .int .i64 v] (by rfl) (by rfl) (World.news_of_block (cs := #[.int .i64 3, .string p, .string ⟨#[]⟩, .int .i64 v]) (t := 85) (fr := (0, 0)) (heap_alloc_new w9 _)) (by simp [Value.oneCell']) (by omega) (by unfold maxLen; omega) (by omega) (by simp; omega) (w9.heap.size + 1) (by simp) ?_
           intro g cap w10 hown10 hgrow10 hat10 hlt10
           have happ := ReqAt.appended HR9.out hown10 hgrow10
           have HX10 : Hid _ := happ.1
           have HR10 : Hid _ := happ.2.1
           have HC10 : Hid _ := happ.2.2
           have HN10 : Hid (w10.heap[nb]? = some (.cells #[.string p, .string ⟨#[]⟩, .int .i64 v, .int .i64 m, .int .i64 c, .int .i64 o, .int .i64 k] 45 (0, 0))) := by
             refine kept_chg ((Chg.alloc w9 _ _).trans (Chg.grown hgrow10)) HN9.out (fun e => ?_)
             obtain ⟨cur, hcur⟩ := owns_kind HR9.out.row e
             rw [HN9.out] at hcur
             simp at hcur
           have HZ10 : Hid (w10.heap[zb]? = some (.cells #[.string ⟨#[]⟩, .string ⟨#[]⟩, .int .i64 0, .int .i64 0, .int .i64 0, .int .i64 0, .slice none 0 0] 87 (0, 0))) := by
             refine kept_chg ((Chg.alloc w9 _ _).trans (Chg.grown hgrow10)) HZ9.out (fun e => ?_)
             obtain ⟨cur, hcur⟩ := owns_kind HR9.out.row e
             rw [HZ9.out] at hcur
             simp at hcur
           have HAT : Hid _ := hat10
           have qn : nb ≠ rb := by omega
           clear hown10 hgrow10 hat10 hlt10 happ r0 r1 r2 r3 a0 a1 a2 a3 a4 a5 a6
           obtain ⟨r0, r1, r2, r3⟩ := cells_4 HX10.out
           have hfr := free_4 HX10.out
           obtain ⟨a0, a1, a2, a3, a4, a5, a6⟩ := cells_7 HN10.out))
    all_goals
      go_wp2_with fail
      go_meet
      case rel => exact ⟨rfl, _, HR10.out, (by rcases HAT.out with e | e; · exact .inl (by rw [e]; rfl)
                                               · exact .inr ⟨g, rfl, by have e' : g = w9.heap.size + 1 := e; omega⟩), (HC9.out.mono (fun k _ e => .inr (.inl e))).trans (HC10.out.mono (fun k _ e => e.elim .inl (fun e => .inr (.inr e)))), other_blk HZ10.out (by omega), other_blk HN10.out (by omega)⟩
  case rest =>
    obtain ⟨rfl, chV', HRf, HLf, HCf, HZf, HNf⟩ := hcut
    clear r0 r1 r2 r3 a0 a1 a2 a3 a4 a5 a6
    obtain ⟨a0, a1, a2, a3, a4, a5, a6⟩ := cells_7 HNf.out
    have HSC : Hid _ := sclone_any p (by omega)
    go_wp2_with fail
    refine (HSC.out _).mono ?_
    rintro e w12 ⟨rfl, hb12⟩
    have HR12 : Hid _ := HRf.out.below hb12
    have HC12 : Hid _ := HCf.out.trans (Chg.of_below hb12 _)
    have HZ12 : Hid _ := kept_block hb12 HZf.out
    clear hb12 a0 a1 a2 a3 a4 a5 a6
    obtain ⟨b0, b1, b2, b3, b4, b5, b6⟩ := cells_7 HZ12.out
    have hfz := free_7 HZ12.out
    go_wp2_with fail
    have hgb : ∀ k, chV'.ownBlock = some k → ¬ k = zb := fun k hk e => by
      obtain ⟨cur, hcur⟩ := owns_kind HR12.out.row hk
      rw [e, HZ12.out] at hcur
      simp at hcur
    refine bodyPost_ret (results_cell1 rfl _ _ zb 87 _ (0, 0) _ rfl (fill_7 HZ12.out) Tryz.underlying87 rfl (by kernel_rfl)) rfl ⟨rfl, chV', HR12.out.chg putC_7 (by omega) (by omega) hgb, HLf.out, ?_⟩
    exact ((HC12.out.mono (S' := fun k => (k = rb ∨ k = mb ∨ chV.ownBlock = some k) ∨ k = zb) (fun _ _ h => .inl h)).trans (putC_7.mono (fun _ _ h => .inr h))).mono (fun k hk h => h.elim id (fun e => absurd hk (by omega)))
end Go.Proofs.YthelfbdkbldhjaaGreatDoor
namespace Go.Proofs.YthelfbdkbldhjaaGreatDoor
open Go.RowKit Go.Maps
set_option linter.unusedVariables false
set_option linter.unusedSimpArgs false

theorem hi64_4 (a : Nat) (h : a < 18446744073709551616) : a &&& 18446744073709551612 = a / 4 * 4 := by
  apply Nat.eq_of_testBit_eq
  intro i
  rw [Nat.testBit_and]
  have e : a / 4 * 4 = (a >>> 2) <<< 2 := by rw [Nat.shiftLeft_eq, Nat.shiftRight_eq_div_pow]
  have e2 : 18446744073709551612 = (2 ^ 62 - 1) <<< 2 := by decide
  rw [e, e2, Nat.testBit_shiftLeft, Nat.testBit_shiftLeft, Nat.testBit_two_pow_sub_one, Nat.testBit_shiftRight]
  by_cases h2 : 2 ≤ i
  · rw [show 2 + (i - 2) = i by omega]
    by_cases h3 : i - 2 < 62
    · simp [h2, h3]
    · have : a.testBit i = false := Nat.testBit_lt_two_pow (Nat.lt_of_lt_of_le h (by rw [show 18446744073709551616 = 2 ^ 64 by decide]; exact Nat.pow_le_pow_right (by decide) (by omega)))
      simp [this]
  · simp [h2]
theorem andNot_flags (f : Int) (h0 : -9223372036854775808 ≤ f) (h1 : f < 9223372036854775808) (hf : ¬ (0 ≤ f ∧ f ≤ 3)) : bits BinOp.andNot IntKind.i64 f 3 ≠ 0 := by
  show IntKind.i64.wrap ((BitVec.ofInt 64 f &&& ~~~BitVec.ofInt 64 3).toNat : Int) ≠ 0
  have e3 : (~~~BitVec.ofInt 64 3 : BitVec 64).toNat = 18446744073709551612 := by decide
  have ef : (BitVec.ofInt 64 f).toNat = (f % 18446744073709551616).toNat := by rw [BitVec.toNat_ofInt]; rfl
  rw [BitVec.toNat_and, e3, ef, hi64_4 _ (by omega), IntKind.wrap_i64]
  omega
set_option maxHeartbeats 1600000 in
theorem mal_out {k : Int} (hk : k < 1 ∨ 7 < k) (rb : Nat) (s : Int) (p d : ByteArray) (v f : Int) (w : World) :
    Calls Tryz.prog 61 #[.pointer (some ⟨rb, 0, none⟩), opV k p d v f] w fun e w' => e = .returned (.int .i64 48) ∧ Below w.heap.size w w' := by
  rcases hk with hk | hk
  · go_enter Tryz.func61, Tryz.ntmps61
    go_wp2
    go_ret
    exact ⟨rfl, (Below.refl _ _).alloc (Nat.le_refl _) _⟩
  · have h1 : ¬ k < 1 := by omega
    go_enter Tryz.func61, Tryz.ntmps61
    go_wp2
    go_ret
    exact ⟨rfl, (Below.refl _ _).alloc (Nat.le_refl _) _⟩
set_option maxHeartbeats 1600000 in
theorem mal_flag (rb : Nat) (s : Int) (p d : ByteArray) (v f : Int) (h0 : -9223372036854775808 ≤ f) (h1 : f < 9223372036854775808) (hf : ¬ (0 ≤ f ∧ f ≤ 3)) (w : World) (hg : GroundT w) :
    Calls Tryz.prog 61 #[.pointer (some ⟨rb, 0, none⟩), opV 1 p d v f] w fun e w' => e = .returned (.int .i64 48) ∧ Below w.heap.size w w' := by
  have n0 := hg.need 1 0 true rfl
  have n1 := hg.need 1 1 true rfl
  have n2 := hg.need 1 2 true rfl
  have n3 := hg.need 1 3 false rfl
  have n4 := hg.need 1 4 false rfl
  have n5 := hg.need 1 5 false rfl
  simp only [Nat.reduceMul, Nat.reduceAdd] at n0 n1 n2 n3 n4 n5
  have hlt := hg.needLt
  obtain ⟨z, hz⟩ : ∃ z, bits BinOp.andNot IntKind.i64 f 3 = z := ⟨_, rfl⟩
  have hz0 : (z == 0) = false := by have := andNot_flags f h0 h1 hf; rw [hz] at this; simpa using this
  have hz1 : (z != 0) = true := by simp [bne, hz0]
  clear hg h0 h1 hf
  go_enter Tryz.func61, Tryz.ntmps61
  go_wp2
  go_ret
  exact ⟨rfl, ((Below.refl _ _).alloc (Nat.le_refl _) _).alloc (by simp) _⟩
end Go.Proofs.YthelfbdkbldhjaaGreatDoor
namespace Go.Proofs.YthelfbdkbldhjaaGreatDoor
open Go.RowKit Go.Maps Go.WideShapes
set_option linter.unusedVariables false
set_option linter.unusedSimpArgs false

/-- The result's value, the nodes and the changes behind one op. -/
structure ReqE (w : World) (base rb mb n : Nat) (s st : Int) (chV : Value) (cn : Nat) (cs : List Value) (R : ResT) (T : List Nd) (ch : List ChT) (ka : Option Addr) (kn kc : Nat) (w' : World) : Prop where
  kids : w'.ownsRow w.heap.size 9 1 (.slice ka kn kc) R.kids.length (R.kids.map Value.string)
  req : ∃ n' D' chV', n' ≤ n + 2 ∧ Rep D' T ∧ ReqAt w' base rb mb n' D' s st chV' (cn + ch.length) (cs ++ chCs ch) ∧ (chV'.ownBlock = chV.ownBlock ∨ ∃ g, chV'.ownBlock = some g ∧ w.heap.size ≤ g)
  chg : Chg w w' (fun k => k = rb ∨ k = mb ∨ chV.ownBlock = some k)
abbrev ReqE.V (R : ResT) (ka : Option Addr) (kn kc : Nat) : Value := resV R.p R.d R.v R.m R.c R.o (.slice ka kn kc)
theorem ReqE.err {w w' : World} {base rb mb n : Nat} {D : DataW Value} {T : List Nd} {s st : Int} {chV : Value} {cn : Nat} {cs : List Value} (hR : ReqAt w base rb mb n D s st chV cn cs) (hr : Rep D T) (hb : Below w.heap.size w w') : ReqE w base rb mb n s st chV cn cs zr T [] none 0 0 w' :=
  ⟨World.ownsRow_nil _ _ _ _, ⟨n, D, chV, by omega, hr, by simpa [chCs] using hR.below hb, .inl rfl⟩, Chg.of_below hb _⟩
/-- Behind the store into the result's box. -/
theorem ReqE.fin {w W w2 : World} {base rb mb n zb : Nat} {s st : Int} {chV : Value} {cn : Nat} {cs : List Value} {R : ResT} {T : List Nd} {ch : List ChT} {ka : Option Addr} {kn kc : Nat} {cs0 : Array Value} {x0 x1 x2 x3 x4 x5 x6 : Value} (h : ReqE W base rb mb n s st chV cn cs R T ch ka kn kc w2) (hW : Below w.heap.size w W) (hz : w2.heap[zb]? = some (.cells cs0 87 (0, 0))) (hzb : w.heap.size ≤ zb) (hrb : rb < w.heap.size) (hmb : mb < w.heap.size) :
    ReqE w base rb mb n s st chV cn cs R T ch ka kn kc (put_7 w2 zb x0 x1 x2 x3 x4 x5 x6) := by
  have hk : (put_7 w2 zb x0 x1 x2 x3 x4 x5 x6).ownsRow W.heap.size 9 1 (.slice ka kn kc) R.kids.length (R.kids.map Value.string) := owns_chg h.kids putC_7 (fun j hj e => by
    have e' : j = zb := e
    subst e'
    obtain ⟨cur, hcur⟩ := owns_kind h.kids hj
    rw [hz] at hcur
    simp at hcur)
  obtain ⟨n', D', chV', hn, hr, hR, hc⟩ := h.req
  refine ⟨⟨hk.1, hk.2.imp id (fun ⟨g, cap, cur, h1, h2, r⟩ => ⟨g, cap, cur, h1, Nat.le_trans hW.size h2, r⟩)⟩, ⟨n', D', chV', hn, hr, hR.chg putC_7 (by omega) (by omega) (fun k hkb e => by
    have e' : k = zb := e
    subst e'
    obtain ⟨cur, hcur⟩ := owns_kind hR.row hkb
    rw [hz] at hcur
    simp at hcur), hc.imp id (fun ⟨g, h1, h2⟩ => ⟨g, h1, Nat.le_trans hW.size h2⟩)⟩, ?_⟩
  exact (((Chg.of_below hW _).trans (h.chg.mono (S' := fun k => (k = rb ∨ k = mb ∨ chV.ownBlock = some k) ∨ k = zb) (fun _ _ h => .inl h))).trans (putC_7.mono (fun _ _ h => .inr h))).mono (fun k hk h => h.elim id (fun e => absurd hk (by omega)))
theorem Rep.make {D : DataW Value} {T : List Nd} (h : Rep D T) {u u' n : Nd} (hu : u ∈ T) (hp : u'.p = u.p) (hn : ∀ x ∈ T, x.p ≠ n.p) : Rep ((D.put (ky u'.p) (.held u'.V)).put (ky n.p) (.held n.V)) (ins n (upd T u')) := by
  have h1 := (h.put u').perm (upd_perm h.nd ⟨u, hu, hp.symm⟩)
  have h2 := h1.put n
  have e : (upd T u').filter (fun x => decide (x.p ≠ n.p)) = upd T u' := List.filter_eq_self.2 (fun x hx => by
    have hm : x.p ∈ (upd T u').map Nd.p := List.mem_map_of_mem hx
    rw [upd_map] at hm
    obtain ⟨z, hz, e⟩ := List.mem_map.1 hm
    have := hn z hz
    rw [e] at this
    simpa using this)
  rw [e] at h2
  exact h2.perm (ins_perm n _)
theorem Rep.set {D : DataW Value} {T : List Nd} (h : Rep D T) {u y : Nd} (hu : u ∈ T) (hp : y.p = u.p) : Rep (D.put (ky y.p) (.held y.V)) (upd T y) := (h.put y).perm (upd_perm h.nd ⟨u, hu, hp.symm⟩)
/-- What a Make that is well formed tells of itself. -/
theorem mal_ok1 {s : Int} {p d : ByteArray} {f : Int} (h : malC s 1 p d f = 0) : (0 ≤ f ∧ f ≤ 3) ∧ (parse p).1 = 0 ∧ (2 ≤ f → (lastN p).size ≤ 11) ∧ p ≠ ⟨#[47]⟩ ∧ d.size ≤ 64 := by
  unfold malC at h
  split at h
  · cases h
  split at h
  · cases h
  split at h
  · cases h
  split at h
  · cases h
  split at h
  · cases h
  split at h
  · cases h
  rename_i h1 h2 h3 h4 h5 h6
  refine ⟨?_, ?_, fun hf => ?_, ?_, ?_⟩
  · by_cases hf : 0 ≤ f ∧ f ≤ 3
    · exact hf
    · exact absurd ⟨rfl, hf⟩ h2
  · by_cases hp : (parse p).1 = 0
    · exact hp
    · exact absurd (.inl hp) h3
  · by_cases hl : 11 < (lastN p).size
    · exact absurd (.inr ⟨⟨rfl, hf⟩, hl⟩) h3
    · omega
  · exact fun e => h4 ⟨.inl rfl, e⟩
  · by_cases hd : 64 < d.size
    · exact absurd ⟨.inl rfl, hd⟩ h6
    · omega
theorem names_of {p : ByteArray} (hp : (parse p).1 = 0) (hr : p ≠ ⟨#[47]⟩) : ∃ xs k x, parse p = (0, xs) ∧ xs.length = k + 1 ∧ xs[k]? = some x ∧ lastN p = x := by
  obtain ⟨c, xs, h⟩ : ∃ c xs, parse p = (c, xs) := ⟨_, _, rfl⟩
  rw [h] at hp
  obtain rfl : c = 0 := hp
  rcases List.eq_nil_or_concat xs with rfl | ⟨ys, x, e⟩
  · have := parse_back h
    rw [placeB, if_pos rfl] at this
    exact absurd this.symm hr
  · rw [List.concat_eq_append] at e
    subst e
    exact ⟨_, ys.length, x, h, by simp, by simp, by unfold lastN; rw [h]; simp⟩
theorem par_size {p : ByteArray} (hp : (parse p).1 = 0) : (parB p).size ≤ 102 := by
  unfold parB
  obtain ⟨c, xs, h⟩ : ∃ c xs, parse p = (c, xs) := ⟨_, _, rfl⟩
  rw [h]
  have hl := parse_len h
  cases xs with
  | nil => show (0 : Nat) ≤ 102; omega
  | cons x r =>
    refine place_size ?_ (all_take hl.2 _)
    have h1 := hl.1
    show ((x :: r).take ((x :: r).length - 1)).length ≤ 6
    rw [List.length_take]
    exact Nat.le_trans (Nat.min_le_right _ _) h1
end Go.Proofs.YthelfbdkbldhjaaGreatDoor
namespace Go.Proofs.YthelfbdkbldhjaaGreatDoor
open Go.RowKit Go.Maps Go.WideShapes
set_option linter.unusedVariables false
set_option linter.unusedSimpArgs false

theorem make_any (base rb mb n : Nat) (D : DataW Value) (T : List Nd) (s st : Int) (chV : Value) (cn : Nat) (cs : List Value) (o : OpT) (w : World) (hg : GroundT w) (hgc : GroundC w)
    (hR : ReqAt w base rb mb n D s st chV cn cs) (hr : Rep D T) (hi : Inv T) (hk : o.k = 1) (hm : malC s o.k o.p o.d o.f = 0) (hn : n ≤ 9000) (hcn : cn ≤ 900) :
    Calls Tryz.prog 62 #[.pointer (some ⟨rb, 0, none⟩), opV o.k o.p o.d o.v o.f] w fun e w' => ∃ ka kn kc, e = .returned (.tuple #[ReqE.V (makeM T s st o).2.2.1 ka kn kc, .int .i64 (makeM T s st o).1]) ∧ ReqE w base rb mb n s st chV cn cs (makeM T s st o).2.2.1 (makeM T s st o).2.1 (makeM T s st o).2.2.2 ka kn kc w' := by
  obtain ⟨k, p, d, v, f⟩ := o
  obtain rfl : k = 1 := hk
  have hm' : malC s 1 p d f = 0 := hm
  obtain ⟨hf, hp0, hlast, hroot, hd⟩ := mal_ok1 hm'
  clear hm hm'
  have hps := size_of_parse hp0
  have hpar := par_size hp0
  have err : ∀ c w', Below w.heap.size w w' → ∃ ka kn kc, Ending.returned (.tuple #[noRes, .int .i64 c]) = .returned (.tuple #[ReqE.V zr ka kn kc, .int .i64 c]) ∧ ReqE w base rb mb n s st chV cn cs zr T [] ka kn kc w' := fun c w' hb => ⟨none, 0, 0, rfl, ReqE.err hR hr hb⟩
  show Calls _ _ #[_, opV 1 p d v f] w _
  unfold makeM
  dsimp only
  cases hfu : fnd T (parB p) with
  | none =>
    dsimp only
    refine Calls.mono (make_40 base rb mb n D s st chV cn cs p d v f ⟨#[]⟩ ⟨#[]⟩ 0 0 0 0 0 w hg hR (hr.look_none hfu) (by rw [hr.has_fnd, hfu]; rfl) (by omega) (by omega) (by decide) (by decide) (by omega) (by omega) (by omega)) ?_
    rintro e w' ⟨rfl, hb⟩
    exact err 40 w' hb
  | some u =>
    dsimp only
    have hu := fnd_some hfu
    have hun := hi.nd u hu.1
    have hup := size_of_parse hun.1
    have hlk := hr.look_fnd hfu
    have hhas : Maps.has D (ky (parB p)) = true := by rw [hr.has_fnd, hfu]; rfl
    by_cases ho : u.o = 0
    · rw [if_neg (by simpa using ho)]
      have hlk0 : look D (parB p) = fuV u.p u.d u.v u.m u.c 0 u.k := by rw [hlk, ← ho]
      by_cases hfull : 2 ≤ f ∧ 99999 < u.k
      · rw [if_pos hfull]
        refine Calls.mono (make_46c base rb mb n D s st chV cn cs p d v f u.p u.d u.v u.m u.c u.k w hg hR hlk0 hhas hf hfull.1 hfull.2 (by omega) (by omega) (by omega) (by omega) (by omega) (by omega) (by omega)) ?_
        rintro e w' ⟨rfl, hb⟩
        exact err 46 w' hb
      · rw [if_neg hfull]
        have hcnt : (f < 2 ∧ atOf p f u.k = p ∧ (if 2 ≤ f then u.k + 1 else u.k) = u.k) ∨ (2 ≤ f ∧ u.k ≤ 99999 ∧ -1000 ≤ u.k ∧ (if 2 ≤ f then u.k + 1 else u.k) = u.k + 1 ∧ ∀ W, Below w.heap.size w W → Calls Tryz.prog 88 #[.string p, .int .i64 u.k] W fun e w' => e = .returned (.tuple #[.string (atOf p f u.k), .int .i64 0]) ∧ Below W.heap.size W w') := by
          by_cases h2 : 2 ≤ f
          · refine .inr ⟨h2, by omega, by omega, by rw [if_pos h2], fun W hb => ?_⟩
            obtain ⟨xs, k, x, hx, hxl, hxk, hlx⟩ := names_of hp0 hroot
            have h9 := counted_good (n := u.k.toNat) (by omega) hx k hxl x hxk (by rw [← hlx]; exact hlast h2) W (hgc.below hb)
            rw [show ((u.k.toNat : Nat) : Int) = u.k by omega] at h9
            unfold atOf
            rw [if_pos h2]
            exact h9
          · refine .inl ⟨by omega, ?_, by rw [if_neg h2]⟩
            unfold atOf
            rw [if_neg h2]
        have hap : (parse (atOf p f u.k)).1 = 0 := by
          unfold atOf
          split
          · rename_i h2
            obtain ⟨xs, k, x, hx, hxl, hxk, hlx⟩ := names_of hp0 hroot
            rw [counted_parse hx k hxl x hxk (by rw [← hlx]; exact hlast h2)]
          · exact hp0
        have has := size_of_parse hap
        obtain ⟨a, ha⟩ : ∃ a, atOf p f u.k = a := ⟨_, rfl⟩
        rw [ha] at hcnt has ⊢
        obtain ⟨pk', hpk'⟩ : ∃ pk', (if 2 ≤ f then u.k + 1 else u.k) = pk' := ⟨_, rfl⟩
        rw [hpk'] at hcnt ⊢
        cases hfa : fnd T a with
        | some y =>
          rw [if_pos (show (some y).isSome = true from rfl)]
          refine Calls.mono (make_41 base rb mb n D s st chV cn cs p d a v f u.p u.d u.v u.m u.c u.k pk' 0 w hg hR hlk0 hhas hf hcnt y.p y.d y.v y.m y.c y.o y.k (hr.look_fnd hfa) (by rw [hr.has_fnd, hfa]; rfl) (by omega) (by omega) (by omega) (by omega) (by omega) (by omega) (by omega) (by omega)) ?_
          rintro e w' ⟨rfl, hb⟩
          exact err 41 w' hb
        | none =>
          rw [if_neg (show ¬ (none : Option Nd).isSome = true by simp)]
          have hah : Maps.has D (ky a) = false := by rw [hr.has_fnd, hfa]; rfl
          by_cases hlen : 64 ≤ T.length
          · rw [if_pos hlen]
            refine Calls.mono (make_46 base rb mb n D s st chV cn cs p d a v f u.p u.d u.v u.m u.c u.k pk' 0 w hg hR hlk0 hhas hf hcnt ⟨#[]⟩ ⟨#[]⟩ 0 0 0 0 0 (hr.look_none hfa) hah (by rw [hr.size]; exact hlen) (by omega) (by omega) (by omega) (by omega) (by omega) (by omega) (by omega) (by omega)) ?_
            rintro e w' ⟨rfl, hb⟩
            exact err 46 w' hb
          · rw [if_neg hlen]
            have hbo : (f % 2 = 0 ∧ (if f % 2 = 1 then s else 0) = 0) ∨ (f % 2 = 1 ∧ (if f % 2 = 1 then s else 0) = s) := by
              by_cases h1 : f % 2 = 1
              · exact .inr ⟨h1, by rw [if_pos h1]⟩
              · exact .inl ⟨by omega, by rw [if_neg h1]⟩
            obtain ⟨ow, how⟩ : ∃ ow, (if f % 2 = 1 then s else 0) = ow := ⟨_, rfl⟩
            rw [how] at hbo ⊢
            refine Calls.mono (make_ok base rb mb n D s st chV cn cs p d a v f u.p u.d u.v u.m u.c u.k pk' ow w hg hR hlk0 hhas hf hcnt hbo ⟨#[]⟩ ⟨#[]⟩ 0 0 0 0 0 (hr.look_none hfa) hah (by rw [hr.size]; omega) (by omega) (by omega) (by omega) (by omega) (by omega) (by omega) (by omega) (by omega)) ?_
            rintro e w' ⟨rfl, chV', hR', hc', hC'⟩
            have e1 : fuV u.p u.d u.v u.m u.c 0 pk' = (⟨u.p, u.d, u.v, u.m, u.c, u.o, pk'⟩ : Nd).V := by rw [← ho]
            rw [e1] at hR'
            have hrep := hr.make (u := u) (u' := ⟨u.p, u.d, u.v, u.m, u.c, u.o, pk'⟩) (n := ⟨a, d, 0, st, st, ow, 0⟩) hu.1 rfl (fnd_none hfa)
            exact ⟨none, 0, 0, rfl, World.ownsRow_nil _ _ _ _, ⟨n + 1 + 1, _, chV', by omega, hrep, by simpa [chCs] using hR', hc'⟩, hC'⟩
    · rw [if_pos ho]
      refine Calls.mono (make_44 base rb mb n D s st chV cn cs p d v f u.p u.d u.v u.m u.c u.o u.k w hg hR hlk hhas ho (by omega) (by omega) (by omega) (by omega) (by omega) (by omega) (by omega)) ?_
      rintro e w' ⟨rfl, hb⟩
      exact err 44 w' hb
end Go.Proofs.YthelfbdkbldhjaaGreatDoor
