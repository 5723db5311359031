/-
  tree: the document's fixed answer (known).
-/
import Derived.Test.YthelfbdkbldhjaaGreatDoorTPlay3
import Derived.Test.YthelfbdkbldhjaaGreatDoorTPart
import Derived.Laws.BytesArg
import Derived.WalkMore
import Derived.Test.YthelfbdkbldhjaaGreatDoorTMis
namespace Go.Proofs.YthelfbdkbldhjaaGreatDoor
open Go.RowKit Go.Maps
set_option linter.unusedVariables false
set_option linter.unusedSimpArgs false

abbrev pA : ByteArray := ⟨#[47, 97]⟩
abbrev pR : ByteArray := ⟨#[47]⟩
abbrev dX : ByteArray := ⟨#[120]⟩
abbrev knownD : DataW Value := .map [(ky pR, .held (fuV pR ⟨#[]⟩ 0 0 0 0 0)), (ky pA, .held (fuV pA dX 0 1 1 0 0))]

theorem par_a : parB pA = pR := by kernel_rfl
theorem look_r : look rootD pR = fuV pR ⟨#[]⟩ 0 0 0 0 0 := by kernel_rfl
theorem look_a : look rootD pA = zf := by kernel_rfl
theorem has_r : Maps.has rootD (ky pR) = true := by kernel_rfl
theorem has_a : Maps.has rootD (ky pA) = false := by kernel_rfl
theorem mal_a : malC 5 1 pA dX 0 = 0 := by kernel_rfl
theorem put_d : (rootD.put (ky pR) (.held (fuV pR ⟨#[]⟩ 0 0 0 0 0))).put (ky pA) (.held (fuV pA dX 0 1 1 0 0)) = knownD := by kernel_rfl
theorem keys_d : strKeys knownD = [[47], [47, 97]] := by kernel_rfl
theorem mal_b {z : ByteArray} (hz : z.size = 65) : malC 0 2 ⟨#[47, 98]⟩ z 0 = 45 := by
  have h1 : (parse ⟨#[47, 98]⟩).1 = 0 := by kernel_rfl
  simp [malC, h1, hz]
theorem wf_d : WF knownD := by
  intro l hl
  rw [keys_d] at hl
  simp at hl
  rcases hl with rfl | rfl
  · exact ⟨by decide, pR, ⟨#[]⟩, 0, 0, 0, 0, 0, by kernel_rfl, by decide, by decide⟩
  · exact ⟨by decide, pA, dX, 0, 1, 1, 0, 0, by kernel_rfl, by decide, by decide⟩
theorem asc_d {ts : List (List UInt8)} (h : ts.Perm (strKeys knownD)) (ha : Asc ts) : ts = [[47], [47, 97]] := by
  rw [keys_d] at h
  have hl := h.length_eq
  match ts, hl with
  | [a, b], _ =>
    have hp := h
    have hm := h.mem_iff (a := a)
    have hm2 := h.mem_iff (a := b)
    simp at hm hm2
    have hn : ([a, b] : List (List UInt8)).Nodup := h.nodup_iff.2 (by decide)
    simp at hn
    unfold Asc at ha
    simp at ha
    rcases hm with rfl | rfl
    · rcases hm2 with rfl | rfl
      · exact absurd rfl hn
      · rfl
    · rcases hm2 with rfl | rfl
      · exact absurd (by decide) ha
      · exact absurd rfl hn

theorem form_n {w : World} {B e s n : Nat} {v : Value} {xs : List Value} (h : w.ownsRow B e s v n xs) (hn : 0 < n) : ∃ g cap, v = .slice (some ⟨g, 0, none⟩) n cap := by
  rcases h.2 with ⟨_, h0⟩ | ⟨g, cap, _, hv, _⟩
  · omega
  · exact ⟨g, cap, hv⟩
theorem cell_n {w : World} {B e s n g cap k : Nat} {xs : List Value} {x : Value} (h : w.ownsRow B e s (.slice (some ⟨g, 0, none⟩) n cap) n xs) (hx : xs[k]? = some x) : w.cell? ⟨g, k, none⟩ = some x := by
  have hk : k < xs.length := (List.getElem?_eq_some_iff.1 hx).1
  rcases h.2 with ⟨h0, _⟩ | ⟨g', cap', cur, hv, _, hg, _, _, hsz, ht⟩
  · cases h0
  · cases hv
    have hkc : k < n * s := by have := h.1; omega
    have : cur[k]? = some x := by
      rw [← hx, ← ht, List.getElem?_take_of_lt hkc, Array.getElem?_toList]
    unfold World.cell?
    simp only [hg]
    exact this
set_option maxHeartbeats 16000000 in
set_option maxRecDepth 100000 in
theorem knownT_any (w : World) (hg : GroundT w) :
    Calls Tryz.prog 15 #[] w fun e w' => e = .returned (.bool true) ∧ Below w.heap.size w w' := by
  have HG : Hid _ := hg
  obtain ⟨i1, hi, hz0, hz1, hz2⟩ := info_parts Tryz.info5
  obtain ⟨n, hn⟩ : ∃ n : Nat, n = 65 := ⟨_, rfl⟩
  have HN : Hid _ := hn
  have hL : (65 : Int) = (n : Int) := by rw [hn]; rfl
  have HL : Hid ((65 : Int) = (n : Int)) := hL
  clear hg hn hL
  go_enter Tryz.func15, Tryz.ntmps15
  go_wp2_with fail
  refine (new_any w).mono ?_
  rintro e w1 ⟨tb, mb, rfl, hT1, hb1⟩
  have HT1 : Hid _ := hT1
  have HB1 : Hid (Below w.heap.size w w1) := hb1
  have HBa : Hid (Below w1.heap.size w1 (w1.alloc (.cells #[.int .i64 1, .string pA, .string dX, .int .i64 0, .int .i64 0] 63))) := (Below.refl _ _).alloc (Nat.le_refl _) _
  have HPL : Hid _ := play1_make w.heap.size tb mb 1 w1.heap.size rootD 5 1 pA dX 0 pR ⟨#[]⟩ 0 0 0 0 ⟨#[]⟩ ⟨#[]⟩ 0 0 0 0 0 (w1.alloc (.cells #[.int .i64 1, .string pA, .string dX, .int .i64 0, .int .i64 0] 63)) (HG.out.below (trans2 hb1 HBa.out)) (hT1.below HBa.out) (heap_alloc_new _ _) mal_a (by rw [par_a]; exact look_r) (by rw [par_a]; exact has_r) look_a has_a (by decide) (by decide) (by decide) (by decide) (by decide) (by rw [par_a]; decide) (by decide) (by decide) (by decide) (by decide) (by decide)
  clear hT1 hb1
  go_wp2_with fail
  refine Calls.mono HPL.out ?_
  rintro e w2 ⟨g, cap, chV, mb2, rfl, hmb2, hT2, hrow2, hC2⟩
  rw [put_d] at hT2
  obtain ⟨gc, capc, rfl⟩ := form_n hrow2 (by decide)
  have HT2 : Hid (TreeAt w2 w.heap.size tb mb2 (1 + 1 + 1) knownD) := hT2
  have HRW2 : Hid _ := hrow2
  have HB2 : Hid (Below w.heap.size w w2) := (trans2 HB1.out HBa.out).trans (hC2.below (by have := HB1.out.size; simp; omega) (fun k _ e => by rw [e]; exact HT1.out.lo))
  have hs2 := HB2.out.size
  clear hT2 hrow2 hC2 hmb2
  go_wp2_with (first
    | (at_make; refine wpList_make_full _ rfl _ _ 83 rfl w2.heap.size 5 i1 (.int .u8 0) 1 Tryz.underlying83 hi hz0 hz1 .i64 .i64 65 65 n rfl rfl HL.out HL.out (by rw [hz2, HN.out]; decide) (by rw [HN.out]; decide) (by simp) ?_; intro w3 hown3 hgrow3; rw [World.size_alloc] at hown3; obtain ⟨z, hz, hconv⟩ := conv_zeros hown3; have HZ : Hid _ := hz; have HGr3 : Hid _ := hgrow3; clear hown3 hgrow3 hz)
    | fail)
  have HBb : Hid (Below w2.heap.size w2 w3) := ((Chg.alloc w2 _ (fun _ => False)).trans ((Chg.grown HGr3.out).mono (fun _ _ e => by cases e))).below (Nat.le_refl _) (fun _ _ h => h.elim)
  have hs3 := HBb.out.size
  have HRB3 : Hid (w3.heap[w2.heap.size]? = some (.cells #[.int .i64 1, .int .i64 0, .int .i64 0, .slice (some ⟨g, 0, none⟩) 1 cap] 54 (0, 0))) := by
    show _ = _
    rw [HGr3.out.block w2.heap.size (by simp) (fun e => by cases e)]; exact heap_alloc_new _ _
  have HBc : Hid (Below w3.heap.size w3 (w3.alloc (.cells #[.int .i64 2, .string ⟨#[47, 98]⟩, .string z, .int .i64 (-1), .int .i64 0] 63))) := (Below.refl _ _).alloc (Nat.le_refl _) _
  have HPM : Hid _ := play1_mal (k := 2) (by decide) (by decide) w.heap.size tb mb2 (1 + 1 + 1) w3.heap.size knownD 0 2 ⟨#[47, 98]⟩ z (-1) 0 (fun h => by omega) (w3.alloc (.cells #[.int .i64 2, .string ⟨#[47, 98]⟩, .string z, .int .i64 (-1), .int .i64 0] 63)) (HG.out.below (trans2 (trans2 HB2.out HBb.out) HBc.out)) ((HT2.out.below HBb.out).below HBc.out) (heap_alloc_new _ _) 45 (mal_b (by rw [HZ.out, HN.out])) (by decide) (by decide) (by decide) (by decide) (by decide)
  clear hconv
  refine Calls.mono HPM.out ?_
  rintro e w4 ⟨rfl, hb4⟩
  have HB34 : Hid (Below w3.heap.size w3 w4) := trans2 HBc.out hb4
  have HB4 : Hid (Below w.heap.size w w4) := trans2 (trans2 HB2.out HBb.out) HB34.out
  have HT4 : Hid _ := (HT2.out.below HBb.out).below HB34.out
  have HRB4 : Hid _ := kept_block HB34.out HRB3.out
  have HRW4 : Hid _ := owns_chg (owns_chg HRW2.out (Chg.of_below HBb.out (fun _ => False)) (fun _ _ => id)) (Chg.of_below HB34.out (fun _ => False)) (fun _ _ => id)
  clear hb4
  have HND : Hid _ := nodes_any w.heap.size tb mb2 (1 + 1 + 1) knownD (w4.alloc (.cells #[.int .i64 2, .int .i64 45, .int .i64 0, .slice none 0 0] 54)) (HT4.out.below ((Below.refl _ _).alloc (Nat.le_refl _) _)) (by decide) wf_d (by rw [keys_d]; decide)
  go_wp2_with (first
    | (go_at_call 27; go_in)
    | (go_at_call 12; refine Calls.mono HND.out ?_; rintro e w5 ⟨g5, cap5, ts, rfl, hp5, ha5, hr5, hb5⟩; obtain rfl := asc_d hp5 ha5
       have HB5 : Hid (Below w4.heap.size w4 w5) := trans2 ((Below.refl _ _).alloc (Nat.le_refl _) _) hb5
       have HR5 : Hid _ := hr5
       have HRB5 : Hid _ := kept_block HB5.out HRB4.out
       have HRW5 : Hid _ := owns_chg HRW4.out (Chg.of_below HB5.out (fun _ => False)) (fun _ _ => id)
       obtain ⟨b0, b1, b2, b3⟩ := cells_4 HRB5.out
       have hc1 : w5.cell? ⟨gc, 1, none⟩ = some (.string pA) := cell_n HRW5.out rfl
       have hc8 : w5.cell? ⟨g5, 8, none⟩ = some (.string dX) := cell_n HR5.out (by kernel_rfl)
       clear hp5 ha5 hr5 hb5)
    | fail)
  go_ret
  exact ⟨rfl, trans2 HB4.out HB5.out⟩
end Go.Proofs.YthelfbdkbldhjaaGreatDoor
namespace Go.Proofs.YthelfbdkbldhjaaGreatDoor
open Go.RowKit Go.Maps
set_option linter.unusedVariables false
set_option linter.unusedSimpArgs false

theorem Tryz.infoO : (Tryz.prog.info? 63).map (fun i => (i.zero, i.size, i.bytes)) = some (some (.agg #[.int .i64 0, .string ⟨#[]⟩, .string ⟨#[]⟩, .int .i64 0, .int .i64 0]), 5, 56) := by kernel_rfl

structure OpT where
  k : Int
  p : ByteArray
  d : ByteArray
  v : Int
  f : Int
abbrev OpT.cells (o : OpT) : List Value := [.int .i64 o.k, .string o.p, .string o.d, .int .i64 o.v, .int .i64 o.f]
def opCs (os : List OpT) : List Value := (os.map OpT.cells).flatten
/-- The ops lie below base. -/
def OpsAt (w : World) (base : Nat) (a : Option Addr) (os : List OpT) : Prop :=
  ∀ i o, os[i]? = some o → ∃ b f, a = some ⟨b, f, none⟩ ∧ b < base ∧ ∀ j x, o.cells[j]? = some x → w.cell? ⟨b, f + i * 5 + j, none⟩ = some x
def DeskAt (w : World) (base db : Nat) (dv : Value) : Prop := w.heap[db]? = some (.cells #[dv] 32 (0, 0)) ∧ base ≤ db ∧ ∃ n xs, w.ownsRow base 63 5 dv n xs

theorem desk_grown {wr w4 : World} {o : Obj} {base db q : Nat} {u : Value} {xs : List Value} (h : ∃ dv, wr.heap[db]? = some (.cells #[dv] 32 (0, 0))) (hr : wr.ownsRow base 63 5 u q xs) (hg : (wr.alloc o).grownBy w4 u.ownBlock) : ∃ dv, w4.heap[db]? = some (.cells #[dv] 32 (0, 0)) := by
  obtain ⟨dv, h⟩ := h
  have hl : db < wr.heap.size := (Array.getElem?_eq_some_iff.1 h).1
  refine ⟨dv, ?_⟩
  rw [hg.block db (by simp; omega) (fun e => ?_)]
  · exact heap_alloc_old h
  · obtain ⟨cur, hc⟩ := owns_kind hr e.symm
    rw [h] at hc
    cases hc
theorem chg_app {w wr w4 : World} {u dv : Value} {db : Nat} {o : Obj} (hC : Chg w wr (fun k => k = db ∨ dv.ownBlock = some k)) (hu : ∀ k, u.ownBlock = some k → dv.ownBlock = some k ∨ w.heap.size ≤ k) (hg : (wr.alloc o).grownBy w4 u.ownBlock) : Chg w w4 (fun k => k = db ∨ dv.ownBlock = some k) := by
  have h1 : Chg wr w4 (fun k => u.ownBlock = some k) := (Chg.alloc wr o _).trans (Chg.grown hg)
  refine ⟨h1.os.trans hC.os, h1.tape.trans hC.tape, h1.output.trans hC.output, Nat.le_trans hC.size h1.size, fun k hk hn => ?_⟩
  rw [h1.block k (Nat.lt_of_lt_of_le hk hC.size) (fun e => ?_), hC.block k hk hn]
  rcases hu k e with h | h
  · exact hn (.inr h)
  · omega
theorem own_app {w wr : World} {u dv : Value} {g H n c : Nat} (hu : ∀ k, u.ownBlock = some k → dv.ownBlock = some k ∨ w.heap.size ≤ k) (hat : u.ownBlock = some g ∨ g = H) (hH : w.heap.size ≤ H) : ∀ k, (Value.slice (some ⟨g, 0, none⟩) n c).ownBlock = some k → dv.ownBlock = some k ∨ w.heap.size ≤ k := by
  intro k hk
  simp only [Value.ownBlock, Option.some.injEq] at hk
  subst hk
  rcases hat with h | h
  · exact hu _ h
  · exact .inr (by omega)
theorem desk_end {w w4 : World} {base db g n cap : Nat} {dv : Value} {xs : List Value} (hbs : base ≤ w.heap.size) (hdl : base ≤ db) (hd : w4.heap[db]? = some (.cells #[dv] 32 (0, 0))) (hr : w4.ownsRow base 63 5 (.slice (some ⟨g, 0, none⟩) n cap) n xs) (hb : Below base w w4) :
    DeskAt (w4.setCell ⟨db, 0, none⟩ (.slice (some ⟨g, 0, none⟩) n cap)) base db (.slice (some ⟨g, 0, none⟩) n cap) ∧ (w4.setCell ⟨db, 0, none⟩ (.slice (some ⟨g, 0, none⟩) n cap)).ownsRow base 63 5 (.slice (some ⟨g, 0, none⟩) n cap) n xs ∧ Below base w (w4.setCell ⟨db, 0, none⟩ (.slice (some ⟨g, 0, none⟩) n cap)) := by
  have hC := Chg.set w4 ⟨db, 0, none⟩ (.slice (some ⟨g, 0, none⟩) n cap)
  have hR := owns_chg hr hC (fun k hk e => by
    obtain ⟨cur, hc⟩ := owns_kind hr hk
    rw [show k = db from e, hd] at hc
    cases hc)
  have hlt : db < w4.heap.size := (Array.getElem?_eq_some_iff.1 hd).1
  refine ⟨⟨?_, hdl, n, xs, hR⟩, hR, hb.trans (hC.below (Nat.le_trans hbs hb.size) (fun k _ e => by rw [show k = db from e]; exact hdl))⟩
  exact same_blk hd rfl
set_option maxHeartbeats 3200000 in
set_option maxRecDepth 100000 in
theorem twin_any (base db : Nat) (dv : Value) (w : World) (os : List OpT) (a : Option Addr) (c : Nat) (hb : base ≤ w.heap.size) (hd : DeskAt w base db dv) (ho : OpsAt w base a os) (hl : os.length ≤ 2513169434846) :
    Calls Tryz.prog 18 #[.pointer (some ⟨db, 0, none⟩), .slice a os.length c] w fun e w' => ∃ g cap, e = .returned (.slice (some ⟨g, 0, none⟩) (os.length + 2) cap) ∧ DeskAt w' base db (.slice (some ⟨g, 0, none⟩) (os.length + 2) cap) ∧ w'.ownsRow base 63 5 (.slice (some ⟨g, 0, none⟩) (os.length + 2) cap) (os.length + 2) (opCs os ++ [.int .i64 77, .string ⟨#[114, 111, 111, 109]⟩, .string ⟨#[]⟩, .int .i64 0, .int .i64 0, .int .i64 78, .string ⟨#[114, 111, 111, 109]⟩, .string ⟨#[]⟩, .int .i64 0, .int .i64 0]) ∧ Below base w w' ∧ Chg w w' (fun k => k = db ∨ dv.ownBlock = some k) ∧ (dv.ownBlock = some g ∨ w.heap.size ≤ g) := by
  obtain ⟨i0, hi0, hz0, hz1, hz2⟩ := info_parts Tryz.infoO
  obtain ⟨hdb, hdl, dn, dxs, hown⟩ := hd
  have hc := cells_1 hdb
  obtain ⟨DV, hDV⟩ : ∃ DV, DV = dv := ⟨_, rfl⟩
  have HDV : Hid (∀ k, dv.ownBlock = some k → DV.ownBlock = some k ∨ w.heap.size ≤ k) := fun k hk => .inl (by rw [hDV]; exact hk)
  have HEQ : Hid (DV = dv) := hDV
  clear hDV
  have HO : Hid _ := ho
  have HOW : Hid _ := hown
  have HDB : Hid _ := hdb
  clear ho hdb
  have hsnoc : ∀ q o, os[q]? = some o → opCs (os.take (q + 1)) = opCs (os.take q) ++ o.cells := fun q o h => by rw [List.take_add_one, h]; simp [opCs]
  have HSN : Hid _ := hsnoc
  clear hsnoc
  rcases hown.2 with ⟨rfl, h0⟩ | ⟨g, cap, cur, rfl, hg1, hg2, hg3, hg4, hg5, hg6⟩
  all_goals
    clear hown
    go_enter Tryz.func18, Tryz.ntmps18
    go_wp2_with fail
    clear hc
    go_loopw [5, 6] (fun l i wr => ∃ q : Nat, i = .int .i64 q ∧ q ≤ os.length ∧ Hid (wr.ownsRow base 63 5 l q (opCs (os.take q))) ∧ Hid (Below base w wr) ∧ Hid (∃ dv, wr.heap[db]? = some (.cells #[dv] 32 (0, 0))) ∧ Hid (Chg w wr (fun k => k = db ∨ DV.ownBlock = some k)) ∧ Hid (∀ k, l.ownBlock = some k → DV.ownBlock = some k ∨ w.heap.size ≤ k)) (fun _ i _ => os.length - (intOf i).toNat)
    case atStart =>
      refine ⟨0, rfl, Nat.zero_le _, ?_, Below.refl _ _, ⟨_, HDB.out⟩, Chg.refl _ _, HDV.out⟩
      first
        | exact World.ownsRow_nil _ _ _ _
        | exact ⟨rfl, .inr ⟨g, cap, cur, rfl, hg1, hg2, Nat.zero_le _, hg4, hg5, rfl⟩⟩
    case round =>
      obtain ⟨q, rfl, hq, HR, HBk, HD, HCk, HUk⟩ := hrel
      have hsk := HBk.out.size
      by_cases hlt : q < os.length
      · obtain ⟨o, hoq⟩ : ∃ o, os[q]? = some o := ⟨os[q], List.getElem?_eq_getElem hlt⟩
        obtain ⟨b, f, rfl, hbl, hcs⟩ := HO.out q o hoq
        have hk : ∀ j x, o.cells[j]? = some x → wr.cell? ⟨b, f + q * 5 + j, none⟩ = some x := fun j x hx => by rw [HBk.out.cell (p := ⟨b, f + q * 5 + j, none⟩) hbl]; exact hcs j x hx
        have k0 : wr.cell? ⟨b, f + q * 5, none⟩ = some (.int .i64 o.k) := hk 0 _ rfl
        have k1 := hk 1 _ rfl
        have k2 := hk 2 _ rfl
        have k3 := hk 3 _ rfl
        have k4 := hk 4 _ rfl
        have HTK : Hid _ := HSN.out q o hoq
        have hlt' : (q : Int) < (os.length : Int) := by omega
        clear hk hcs hoq
        go_wp2_with (first
          | (at_builtin; refine wpList_append_lies _ rfl _ _ _ rfl base 63 i0 _ 5 56 Tryz.underlying30 hi0 hz0 hz1 hz2 rfl (by omega) u5 q (opCs (os.take q)) rfl (World.ownsRow.alloc HR.out _) ⟨wr.heap.size, 0, none⟩ 1 1 [.int .i64 o.k, .string o.p, .string o.d, .int .i64 o.v, .int .i64 o.f] rfl rfl (World.news_of_block (cs := #[.int .i64 o.k, .string o.p, .string o.d, .int .i64 o.v, .int .i64 o.f]) (t := 63) (fr := (0, 0)) (heap_alloc_new wr _)) (by simp [Value.oneCell']) (by omega) (by unfold maxLen; omega) (by omega) (by simp; omega) (wr.heap.size + 1) (by simp) ?_
             intro g4 cap4 w4 hown4 hgrow4 hat4 hlt4
             have HN4 : Hid (w4.ownsRow base 63 5 (.slice (some ⟨g4, 0, none⟩) (q + 1) cap4) (q + 1) (opCs (os.take (q + 1)))) := by rw [HTK.out]; exact hown4
             have HB4 : Hid (Below base w w4) := HBk.out.trans (((Below.refl _ _).alloc (by omega) _).grown hgrow4 (by simp; omega) (fun j hj => (HR.out.lt j hj).1))
             have HD4 : Hid (∃ dv, w4.heap[db]? = some (.cells #[dv] 32 (0, 0))) := desk_grown HD.out HR.out hgrow4
             have HC4 : Hid (Chg w w4 (fun k => k = db ∨ DV.ownBlock = some k)) := chg_app HCk.out HUk.out hgrow4
             have HU4 : Hid (∀ k, (Value.slice (some ⟨g4, 0, none⟩) (q + 1) cap4).ownBlock = some k → DV.ownBlock = some k ∨ w.heap.size ≤ k) := own_app (wr := wr) HUk.out hat4 (by omega)
             clear hown4 hgrow4 hat4 hlt4)
          | fail)
        go_roundw
        case rel => exact ⟨q + 1, by go_num, by omega, HN4.out, HB4.out, HD4.out, HC4.out, HU4.out⟩
        case measure => simp [intOf]; omega
      · obtain rfl : q = os.length := by omega
        rw [List.take_of_length_le (Nat.le_refl _)] at HR
        go_wp2_with (first
          | (at_builtin; refine wpList_append_lies _ rfl _ _ _ rfl base 63 i0 _ 5 56 Tryz.underlying30 hi0 hz0 hz1 hz2 rfl (by omega) u5 os.length (opCs os) rfl (World.ownsRow.alloc HR.out _) ⟨wr.heap.size, 0, none⟩ 2 2 [.int .i64 77, .string ⟨#[114, 111, 111, 109]⟩, .string ⟨#[]⟩, .int .i64 0, .int .i64 0, .int .i64 78, .string ⟨#[114, 111, 111, 109]⟩, .string ⟨#[]⟩, .int .i64 0, .int .i64 0] rfl rfl (World.news_of_block (cs := #[.int .i64 77, .string ⟨#[114, 111, 111, 109]⟩, .string ⟨#[]⟩, .int .i64 0, .int .i64 0, .int .i64 78, .string ⟨#[114, 111, 111, 109]⟩, .string ⟨#[]⟩, .int .i64 0, .int .i64 0]) (t := 63) (fr := (0, 0)) (heap_alloc_new wr _)) (by simp [Value.oneCell']) (by omega) (by unfold maxLen; omega) (by omega) (by simp; omega) (wr.heap.size + 1) (by simp) ?_
             intro g4 cap4 w4 hown4 hgrow4 hat4 hlt4
             have HN4 : Hid (w4.ownsRow base 63 5 (.slice (some ⟨g4, 0, none⟩) (os.length + 2) cap4) (os.length + 2) (opCs os ++ [.int .i64 77, .string ⟨#[114, 111, 111, 109]⟩, .string ⟨#[]⟩, .int .i64 0, .int .i64 0, .int .i64 78, .string ⟨#[114, 111, 111, 109]⟩, .string ⟨#[]⟩, .int .i64 0, .int .i64 0])) := hown4
             have HB4 : Hid (Below base w w4) := HBk.out.trans (((Below.refl _ _).alloc (by omega) _).grown hgrow4 (by simp; omega) (fun j hj => (HR.out.lt j hj).1))
             have HC4 : Hid (Chg w w4 (fun k => k = db ∨ DV.ownBlock = some k)) := chg_app HCk.out HUk.out hgrow4
             have HU4 : Hid (∀ k, (Value.slice (some ⟨g4, 0, none⟩) (os.length + 2) cap4).ownBlock = some k → DV.ownBlock = some k ∨ w.heap.size ≤ k) := own_app (wr := wr) HUk.out hat4 (by omega)
             obtain ⟨dv4, hd4⟩ := desk_grown HD.out HR.out hgrow4
             have HD4 : Hid _ := hd4
             have hc4 := cells_1 hd4
             have hf4 := free_1 hd4
             clear hown4 hgrow4 hat4 hlt4 hd4)
          | fail)
        go_ret
        obtain ⟨e1, e2, e3⟩ := desk_end hb hdl HD4.out HN4.out HB4.out
        exact ⟨g4, cap4, rfl, e1, e2, e3, by rw [← HEQ.out]; exact HC4.out.trans ((Chg.set _ _ _).mono (fun _ _ h => .inl h)), by rw [← HEQ.out]; exact HU4.out g4 rfl⟩
end Go.Proofs.YthelfbdkbldhjaaGreatDoor
namespace Go.Proofs.YthelfbdkbldhjaaGreatDoor
open Go.RowKit Go.Maps Go.WideShapes
set_option linter.unusedVariables false
set_option linter.unusedSimpArgs false

/-- A result, a change. -/
structure ResT where
  p : ByteArray
  d : ByteArray
  v : Int
  m : Int
  c : Int
  o : Int
  kids : List ByteArray
abbrev zr : ResT := ⟨⟨#[]⟩, ⟨#[]⟩, 0, 0, 0, 0, []⟩
structure ChT where
  k : Int
  p : ByteArray
  d : ByteArray
  v : Int
abbrev ChT.cells (x : ChT) : List Value := [.int .i64 x.k, .string x.p, .string x.d, .int .i64 x.v]
def chCs (l : List ChT) : List Value := l.flatMap ChT.cells
/-- The node at a place. -/
def fnd (T : List Nd) (s : ByteArray) : Option Nd := T.find? (fun x => decide (x.p = s))
/-- A node turned, at its place. -/
def upd (T : List Nd) (y : Nd) : List Nd := T.map (fun x => if x.p = y.p then y else x)
/-- A node more, in the order. -/
def ins (n : Nd) : List Nd → List Nd
  | [] => [n]
  | x :: r => if O n.p x.p = -1 then n :: x :: r else x :: ins n r
def atOf (p : ByteArray) (f k : Int) : ByteArray := if 2 ≤ f then mk (p.data.toList ++ five k.toNat) else p
theorem fnd_some {T : List Nd} {s : ByteArray} {x : Nd} (h : fnd T s = some x) : x ∈ T ∧ x.p = s := ⟨List.mem_of_find?_eq_some h, by simpa using List.find?_some h⟩
theorem fnd_none {T : List Nd} {s : ByteArray} (h : fnd T s = none) : ∀ x ∈ T, x.p ≠ s := fun x hx e => by
  have := List.find?_eq_none.1 h x hx
  simp [e] at this
theorem Rep.has_fnd {D : DataW Value} {T : List Nd} (h : Rep D T) (s : ByteArray) : Maps.has D (ky s) = (fnd T s).isSome := by
  cases hf : fnd T s with
  | none =>
    cases hh : Maps.has D (ky s) with
    | false => rfl
    | true =>
      obtain ⟨x, hx, e⟩ := (h.has s).1 hh
      exact absurd e (fnd_none hf x hx)
  | some x => exact (h.has s).2 ⟨x, (fnd_some hf).1, (fnd_some hf).2⟩
theorem Rep.look_fnd {D : DataW Value} {T : List Nd} (h : Rep D T) {s : ByteArray} {x : Nd} (hf : fnd T s = some x) : Go.Proofs.YthelfbdkbldhjaaGreatDoor.look D s = x.V := by
  rw [← (fnd_some hf).2]
  exact h.look x (fnd_some hf).1
theorem Rep.look_none {D : DataW Value} {T : List Nd} (h : Rep D T) {s : ByteArray} (hf : fnd T s = none) : Go.Proofs.YthelfbdkbldhjaaGreatDoor.look D s = zf := by
  have h1 := h.has_fnd s
  rw [hf] at h1
  unfold Go.Proofs.YthelfbdkbldhjaaGreatDoor.look
  rw [atKey_of_not_has h1]
theorem upd_map (T : List Nd) (y : Nd) : (upd T y).map Nd.p = T.map Nd.p := by
  unfold upd
  rw [List.map_map]
  apply List.map_congr_left
  intro x _
  simp only [Function.comp]
  split
  · rename_i h; exact h.symm
  · rfl
theorem upd_len (T : List Nd) (y : Nd) : (upd T y).length = T.length := by simp [upd]
theorem upd_perm {T : List Nd} {y : Nd} (hnd : (T.map Nd.p).Nodup) (hy : ∃ u ∈ T, u.p = y.p) : (upd T y).Perm (y :: T.filter (fun x => decide (x.p ≠ y.p))) := by
  induction T with
  | nil => obtain ⟨u, hu, _⟩ := hy; cases hu
  | cons x r ih =>
    rw [List.map_cons, List.nodup_cons] at hnd
    by_cases hx : x.p = y.p
    · have hr : r.filter (fun x => decide (x.p ≠ y.p)) = r := List.filter_eq_self.2 (fun z hz => by
        have : z.p ≠ y.p := fun e => hnd.1 (by rw [hx, ← e]; exact List.mem_map_of_mem hz)
        simpa using this)
      have hu : upd r y = r := by
        unfold upd
        conv => rhs; rw [← List.map_id r]
        apply List.map_congr_left
        intro z hz
        have : z.p ≠ y.p := fun e => hnd.1 (by rw [hx, ← e]; exact List.mem_map_of_mem hz)
        simp [this]
      have e1 : upd (x :: r) y = y :: upd r y := by simp [upd, hx]
      rw [e1, hu, List.filter_cons, if_neg (by simp [hx]), hr]
    · have e1 : upd (x :: r) y = x :: upd r y := by simp [upd, hx]
      have e2 : (x :: r).filter (fun x => decide (x.p ≠ y.p)) = x :: r.filter (fun x => decide (x.p ≠ y.p)) := by rw [List.filter_cons, if_pos (by simpa using hx)]
      obtain ⟨u, hu, hup⟩ := hy
      have hur : u ∈ r := by
        rcases List.mem_cons.1 hu with rfl | hu
        · exact absurd hup hx
        · exact hu
      rw [e1, e2]
      exact ((ih hnd.2 ⟨u, hur, hup⟩).cons x).trans (List.Perm.swap _ _ _)
theorem ins_perm (n : Nd) : ∀ T : List Nd, (ins n T).Perm (n :: T)
  | [] => List.Perm.refl _
  | x :: r => by
    unfold ins
    split
    · exact List.Perm.refl _
    · exact ((ins_perm n r).cons x).trans (List.Perm.swap _ _ _)
theorem ins_len (n : Nd) (T : List Nd) : (ins n T).length = T.length + 1 := by rw [(ins_perm n T).length_eq]; rfl
theorem Srt.of_map {T U : List Nd} (h : Srt T) (e : U.map Nd.p = T.map Nd.p) : Srt U := by
  have h1 : (T.map Nd.p).Pairwise (fun a b => O a b = -1) := List.pairwise_map.2 h
  rw [← e] at h1
  exact List.pairwise_map.1 h1
theorem Srt.upd {T : List Nd} (h : Srt T) (y : Nd) : Srt (upd T y) := h.of_map (upd_map T y)
theorem Srt.ins {n : Nd} : ∀ {T : List Nd}, Srt T → (∀ x ∈ T, x.p ≠ n.p) → Srt (ins n T)
  | [], _, _ => List.pairwise_singleton _ _
  | x :: r, h, hn => by
    obtain ⟨h1, h2⟩ := List.pairwise_cons.1 h
    unfold Go.Proofs.YthelfbdkbldhjaaGreatDoor.ins
    split
    · rename_i hlt
      refine List.pairwise_cons.2 ⟨fun z hz => ?_, h⟩
      rcases List.mem_cons.1 hz with rfl | hz
      · exact hlt
      · exact O_trans hlt (h1 z hz)
    · rename_i hlt
      refine List.pairwise_cons.2 ⟨fun z hz => ?_, Srt.ins h2 (fun z hz => hn z (List.mem_cons_of_mem _ hz))⟩
      rcases List.mem_cons.1 ((ins_perm n r).mem_iff.1 hz) with rfl | hz
      · rcases O_range z.p x.p with e | e | e
        · exact absurd e hlt
        · exact absurd (O_zero e).symm (hn x List.mem_cons_self)
        · rw [O_anti z.p x.p, e]
      · exact h1 z hz
/-- A tree that may be. -/
structure Inv (T : List Nd) : Prop where
  srt : Srt T
  len : T.length ≤ 64
  nd : ∀ x ∈ T, (parse x.p).1 = 0 ∧ x.d.size ≤ 64 ∧ 0 ≤ x.v ∧ x.v ≤ 2147483647 ∧ 0 ≤ x.k ∧ x.k ≤ 100000
theorem size_of_parse {s : ByteArray} (h : (parse s).1 = 0) : s.size ≤ 102 := parse_size (xs := (parse s).2) (by rw [← h])
theorem Inv.sml {T : List Nd} (h : Inv T) : Sml T := fun x hx => ⟨Nat.le_trans (size_of_parse (h.nd x hx).1) (by decide), Nat.le_trans (h.nd x hx).2.1 (by decide)⟩
/-- One op: its code, the nodes behind it, the result, the changes. -/
def makeM (T : List Nd) (s st : Int) (o : OpT) : Int × List Nd × ResT × List ChT :=
  match fnd T (parB o.p) with
  | none => (40, T, zr, [])
  | some u =>
    if u.o ≠ 0 then (44, T, zr, []) else
    if 2 ≤ o.f ∧ 99999 < u.k then (46, T, zr, []) else
    if (fnd T (atOf o.p o.f u.k)).isSome then (41, T, zr, []) else
    if 64 ≤ T.length then (46, T, zr, []) else
    (0, ins ⟨atOf o.p o.f u.k, o.d, 0, st, st, if o.f % 2 = 1 then s else 0, 0⟩ (upd T { u with k := if 2 ≤ o.f then u.k + 1 else u.k }), ⟨atOf o.p o.f u.k, ⟨#[]⟩, 0, st, st, if o.f % 2 = 1 then s else 0, []⟩, [⟨1, atOf o.p o.f u.k, o.d, 0⟩])
def restM (T : List Nd) (st : Int) (o : OpT) (x : Nd) : List Nd × ResT × List ChT :=
  if o.k = 2 then (upd T { x with d := o.d, v := x.v + 1, c := st }, ⟨x.p, ⟨#[]⟩, x.v + 1, x.m, st, x.o, []⟩, [⟨2, x.p, o.d, x.v + 1⟩]) else
  if o.k = 3 then (T.filter (fun y => decide (y.p ≠ x.p)), ⟨x.p, ⟨#[]⟩, 0, 0, 0, 0, []⟩, [⟨3, x.p, ⟨#[]⟩, x.v⟩]) else
  (T, ⟨x.p, if o.k = 5 then x.d else ⟨#[]⟩, x.v, x.m, x.c, x.o, if o.k = 7 then kidsM T x.p else []⟩, [])
def oneM (T : List Nd) (s st : Int) (o : OpT) : Int × List Nd × ResT × List ChT :=
  if malC s o.k o.p o.d o.f ≠ 0 then (malC s o.k o.p o.d o.f, T, zr, []) else
  if o.k = 1 then makeM T s st o else
  match fnd T o.p with
  | none => (40, T, zr, [])
  | some x => if misC o.k o.v x.v (kidsM T x.p) ≠ 0 then (misC o.k o.v x.v (kidsM T x.p), T, zr, []) else (0, restM T st o x)
end Go.Proofs.YthelfbdkbldhjaaGreatDoor
