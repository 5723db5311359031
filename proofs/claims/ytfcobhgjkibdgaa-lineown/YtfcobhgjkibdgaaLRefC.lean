/-
  heraldref16: Send, Numbers.
-/
import Derived.Test.YtfcobhgjkibdgaaLRefB
import Derived.Deep.CutRange
namespace Go.Proofs.Ytfcobhgjkibdgaa
open Go.RowKit
set_option linter.unusedVariables false
set_option linter.unusedSimpArgs false

theorem ext_alloc {w W : World} (h : Below w.heap.size w W) (o : Obj) : Below w.heap.size w (W.alloc o) := h.alloc h.size o
theorem ext_set {w W : World} {g i : Nat} {v : Value} (h : Below w.heap.size w W) (hg : w.heap.size ≤ g) : Below w.heap.size w (W.setCell ⟨g, i, none⟩ v) := h.setCell hg v
/-- One more in flight. -/
def LnT.put (L : LnT) (m : MsT) (s : Bool) : LnT × Int := if L.no = true ∨ 256 ≤ L.fl.length then (L, -1) else (⟨L.fl ++ [⟨L.gv + 1, m, s⟩], L.gv + 1, false⟩, ((L.gv + 1 : Nat) : Int))
/-- Several. -/
def LnT.send (L : LnT) : List MsT → LnT × List Int
  | [] => (L, [])
  | m :: ms => (((L.put m false).1.send ms).1, (L.put m false).2 :: ((L.put m false).1.send ms).2)
theorem send_snoc (m : MsT) : ∀ (ms : List MsT) (L : LnT), L.send (ms ++ [m]) = (((L.send ms).1.put m false).1, (L.send ms).2 ++ [((L.send ms).1.put m false).2])
  | [], L => rfl
  | x :: ms, L => by
    show ((((L.put x false).1.send (ms ++ [m])).1), _ :: ((L.put x false).1.send (ms ++ [m])).2) = _
    rw [send_snoc m ms]
    rfl
theorem send_len : ∀ (ms : List MsT) (L : LnT), (L.send ms).2.length = ms.length
  | [], L => rfl
  | x :: ms, L => by show (_ :: _).length = _; rw [List.length_cons, send_len ms]; rfl
theorem put_gv (L : LnT) (m : MsT) (s : Bool) : (L.put m s).1.gv ≤ L.gv + 1 := by unfold LnT.put; split <;> simp
theorem put_len (L : LnT) (m : MsT) (s : Bool) (h : L.fl.length ≤ 256) : (L.put m s).1.fl.length ≤ 256 := by
  unfold LnT.put
  split
  · exact h
  · rename_i h0
    simp only [List.length_append, List.length_cons, List.length_nil]
    omega
theorem send_gv : ∀ (ms : List MsT) (L : LnT), (L.send ms).1.gv ≤ L.gv + ms.length
  | [], L => Nat.le_refl _
  | x :: ms, L => by
    have h1 := send_gv ms (L.put x false).1
    have h2 := put_gv L x false
    show ((L.put x false).1.send ms).1.gv ≤ _
    rw [List.length_cons]
    omega
theorem send_le : ∀ (ms : List MsT) (L : LnT), L.fl.length ≤ 256 → (L.send ms).1.fl.length ≤ 256
  | [], L, h => h
  | x :: ms, L, h => send_le ms _ (put_len L x false h)
theorem refPut_all (L : LnT) (m : MsT) (s : Bool) (v : Value) (w : World) (h : FlAt w v L.fl) (hl : L.fl.length ≤ 256) (hgv : L.gv ≤ 1099511627776) :
    Calls Try.prog 48 #[lnV v L.gv L.no, m.val, .bool s] w fun e w' => ∃ v', e = .returned (.tuple #[lnV v' (L.put m s).1.gv (L.put m s).1.no, .int .i64 (L.put m s).2]) ∧ FlAt w' v' (L.put m s).1.fl ∧ Below w.heap.size w w' := by
  refine (refPut_any L.fl L.gv L.no m s v w h hl hgv).mono ?_
  intro e w' hE
  unfold LnT.put
  by_cases hn : L.no = true ∨ 256 ≤ L.fl.length
  · rw [if_pos hn]
    exact ⟨v, hE.no hn, owns_below h hE.below, hE.below⟩
  · rw [if_neg hn]
    obtain ⟨v', h1, h2⟩ := hE.ok (by cases hb : L.no; · rfl
                                     · exact absurd (.inl hb) hn) (by omega)
    exact ⟨v', h1, h2, hE.below⟩
/-- A message in memory. -/
structure msE (w : World) (b o : Nat) (m : MsT) : Prop where
  f : w.cell? ⟨b, o, none⟩ = some (.int .i64 m.f)
  t : w.cell? ⟨b, o + 1, none⟩ = some (.int .i64 m.t)
  b : w.cell? ⟨b, o + 2, none⟩ = some (.string m.b)
abbrev MssAt (w : World) (S : Nat → Prop) (v : Value) (l : List MsT) : Prop := RowAt w S 3 (msE w) v l
theorem MssAt.keep {w w' : World} {S : Nat → Prop} {v : Value} {l : List MsT} (h : MssAt w S v l) (hk : Kp w w' S) : MssAt w' S v l := h.map hk.size (fun _ _ h => h) (fun b o x hb hS hx => ⟨hk.cell hb hS hx.f, hk.cell hb hS hx.t, hk.cell hb hS hx.b⟩)
theorem Try.info_int : (Try.prog.info? 3).map (fun i => (i.zero, i.size, i.bytes)) = some (some (.int .i64 0), 1, 8) := by kernel_rfl
/-- The document's Send between two messages. -/
structure SdI (w0 w : World) (g : Nat) (L : LnT) (v nv : Value) (ns : List Int) : Prop where
  row : FlAt w v L.fl
  box : w.heap[g]? = some (.cells #[v, .int .i64 L.gv, .bool L.no] 56 (0, 0))
  res : w.heap[g + 1]? = some (.cells #[.slice none 0 0, .int .i64 0, .bool false] 56 (0, 0))
  nums : InsOwn w w0.heap.size nv ns
  below : Below w0.heap.size w0 w
theorem SdI.at {w0 w w' : World} {g : Nat} {L : LnT} {v nv : Value} {ns : List Int} (h : SdI w0 w g L v nv ns) (hb : Below w.heap.size w w') : SdI w0 w' g L v nv ns :=
  ⟨owns_below h.row hb, kept_block hb h.box, kept_block hb h.res, owns_below h.nums hb, trans2 h.below hb⟩
theorem SdI.next {w0 w w' : World} {g : Nat} {L L' : LnT} {v v' nv : Value} {ns : List Int} (h : SdI w0 w g L v nv ns) (hg : g = w0.heap.size) (hr : FlAt w v' L'.fl) (hw : w' = put_3 w g v' (.int .i64 L'.gv) (.bool L'.no)) : SdI w0 w' g L' v' nv ns := by
  subst hw
  have hc : Chg w (put_3 w g v' (.int .i64 L'.gv) (.bool L'.no)) (fun k => k = g) := chg_put3 w g _ _ _
  have hk := Kind.one h.box
  refine ⟨row_other hr hc hk (by decide), fill_3 h.box, ?_, row_other h.nums hc hk (by decide), fillB_3 h.below (by omega)⟩
  rw [hc.block (g + 1) (lt_of_blk h.res) (by omega)]
  exact h.res
theorem SdI.push {w0 w w1 w' : World} {g : Nat} {L : LnT} {v nv nv' : Value} {ns : List Int} {x : Int} (h : SdI w0 w g L v nv ns) (hb : Below w.heap.size w w1) (hr : w'.ownsRow w0.heap.size 3 1 nv' (ns.length + 1) (ns.map (.int .i64 ·) ++ [.int .i64 x])) (hgr : w1.grownBy w' nv.ownBlock) : SdI w0 w' g L v nv' (ns ++ [x]) := by
  have h1 := h.at hb
  have hc := Chg.grown hgr
  have hk := Kind.own h1.nums
  refine ⟨row_other h1.row hc hk (by decide), blk_other h1.box hc hk (by decide), blk_other h1.res hc hk (by decide), ?_, ?_⟩
  · show World.ownsRow _ _ _ _ _ _ _
    rw [List.length_append, List.map_append]
    exact hr
  · exact grown_in h1.below hgr (fun k hk => (row_block h1.nums k hk).1) (Nat.le_refl _)
set_option maxHeartbeats 3200000 in
set_option maxRecDepth 100000 in
theorem refSend_any (L : LnT) (ms : List MsT) (v vm : Value) (w : World) (P : Nat → Prop) (h : FlAt w v L.fl) (hm : MssAt w P vm ms) (hl : L.fl.length ≤ 256) (hgv : L.gv + ms.length ≤ 1099511627776) :
    Calls Try.prog 40 #[lnV v L.gv L.no, vm] w fun e w' => ∃ v' u, e = .returned (.tuple #[lnV v' (L.send ms).1.gv (L.send ms).1.no, u]) ∧ FlAt w' v' (L.send ms).1.fl ∧ InsOwn w' w.heap.size u (L.send ms).2 ∧ Below w.heap.size w w' := by
  obtain ⟨a, c, rfl, _⟩ := fl_form h
  obtain ⟨ma, mc, rfl, _⟩ := RowAt.form hm
  obtain ⟨mn, hmn⟩ : ∃ z, ms.length = z := ⟨_, rfl⟩
  rw [hmn] at hm hgv ⊢
  obtain ⟨hA, hB, hbel⟩ := pair_blocks (w := w) (t := 56) (cs := #[.slice a L.fl.length c, .int .i64 L.gv, .bool L.no]) (t' := 56) (cs' := #[.slice none 0 0, .int .i64 0, .bool false])
  obtain ⟨W, hW⟩ : ∃ W, ((w.alloc (.cells #[.slice a L.fl.length c, .int .i64 L.gv, .bool L.no] 56)).alloc (.cells #[.slice none 0 0, .int .i64 0, .bool false] 56)) = W := ⟨_, rfl⟩
  rw [hW] at hA hB hbel
  obtain ⟨g, hg⟩ : ∃ g, w.heap.size = g := ⟨_, rfl⟩
  have HS0 : Hid (SdI w W g L (.slice a L.fl.length c) (.slice none 0 0) []) := ⟨owns_below h hbel, by rw [← hg]; exact hA, by rw [← hg]; exact hB, owns_nil _ _ _ _, hbel⟩
  have HG : Hid (w.heap.size = g) := hg
  have HW : Hid (_ = W) := hW
  have HMN : Hid (ms.length = mn) := hmn
  have HMS : Hid (MssAt w (fun j => j < w.heap.size ∧ P j) (.slice ma mn mc) ms) := RowAt.map hm (Nat.le_refl _) (fun b hb hP => ⟨hb, hP⟩) (fun _ _ _ _ _ h => h)
  have HL : Hid (L.fl.length ≤ 256) := hl
  clear hA hB hbel hW hg hmn h hm hl
  go_enter Try.func40, Try.ntmps40
  go_upto_region 1 with fail
  rw [HW.out, HG.out]
  go_wp2_with fail
  go_loopw [6, 7, 8, 9] (fun nv i _ _ wr => ∃ (q : Nat) (va : Value), i = .int .i64 q ∧ q ≤ mn ∧ Hid (SdI w wr g (L.send (ms.take q)).1 va nv (L.send (ms.take q)).2)) (fun _ i _ _ _ => mn - (intOf i).toNat)
  case atStart => exact ⟨0, _, rfl, Nat.zero_le _, HS0⟩
  case round =>
    obtain ⟨q, va, rfl, hq, HI⟩ := hrel
    by_cases hlt : q < mn
    · have hqi : (q : Int) < (mn : Int) := by omega
      obtain ⟨x, hx⟩ : ∃ x, ms[q]? = some x := ⟨ms[q]'(by rw [HMN.out]; exact hlt), List.getElem?_eq_getElem _⟩
      obtain ⟨mb, mo, rfl, ⟨hmb, _⟩, _, hE⟩ := RowAt.get HMS.out hx
      obtain ⟨va1, vc1, rfl, _⟩ := fl_form HI.out.row
      obtain ⟨Lq, hLq⟩ : ∃ z, L.send (ms.take q) = z := ⟨_, rfl⟩
      have hlen : Lq.2.length = q := by rw [← hLq, send_len, List.length_take, HMN.out]; omega
      have hgq : Lq.1.gv ≤ 1099511627776 := by
        have := send_gv (ms.take q) L
        rw [hLq, List.length_take, HMN.out] at this
        omega
      have hle : Lq.1.fl.length ≤ 256 := by rw [← hLq]; exact send_le _ _ HL.out
      rw [hLq] at HI
      obtain ⟨qn, hqn⟩ : ∃ z, Lq.1.fl.length = z := ⟨_, rfl⟩
      have HP : Hid (∀ w', Below wr.heap.size wr w' → _) := fun w' hb => refPut_all Lq.1 x false (.slice va1 Lq.1.fl.length vc1) w' (owns_below HI.out.row hb) hle hgq
      obtain ⟨PP, hPP⟩ : ∃ z, Lq.1.put x false = z := ⟨_, rfl⟩
      rw [hPP] at HP
      have HN : Hid (L.send (ms.take (q + 1)) = (PP.1, Lq.2 ++ [PP.2])) := by show _ = _; rw [take_at hx, send_snoc, hLq, hPP]
      rw [hqn] at HI HP
      have HSW : Hid (∀ w', Below wr.heap.size wr w' → w'.cell? ⟨g, 0, none⟩ = some (.slice va1 qn vc1) ∧ w'.cell? ⟨g, 1, none⟩ = some (.int .i64 Lq.1.gv) ∧ w'.cell? ⟨g, 2, none⟩ = some (.bool Lq.1.no) ∧ w'.cell? ⟨mb, mo + q * 3, none⟩ = some (.int .i64 x.f) ∧ w'.cell? ⟨mb, mo + q * 3 + 1, none⟩ = some (.int .i64 x.t) ∧ w'.cell? ⟨mb, mo + q * 3 + 2, none⟩ = some (.string x.b)) := fun w' hb => by
        obtain ⟨c0, c1, c2⟩ := cells_3 (kept_block hb HI.out.box)
        have hbb : Below w.heap.size w w' := trans2 HI.out.below hb
        have k : ∀ {o v}, w.cell? ⟨mb, o, none⟩ = some v → w'.cell? ⟨mb, o, none⟩ = some v := fun hv => by rw [hbb.cell (p := ⟨mb, _, none⟩) hmb]; exact hv
        exact ⟨c0, c1, c2, k hE.f, k hE.t, k hE.b⟩
      have HLN : Hid (Lq.2.length = q) := hlen
      obtain ⟨c0, c1, c2, x0, x1, x2⟩ := HSW.out wr (Below.refl _ _)
      clear hx hE hlen hgq hle hLq hPP hqn hmb
      go_upto_region 5 with fail
      go_cut [8, 9] from 10 to 29 (fun s8 s9 wc => ∃ (g8 : Nat) (a8 : Option Addr) (c8 : Nat), s8 = .pointer (some ⟨g8, 0, none⟩) ∧ s9 = .int .i64 PP.2 ∧ wr.heap.size ≤ g8 ∧ Hid (wc.heap[g8]? = some (.cells #[.slice a8 PP.1.fl.length c8, .int .i64 PP.1.gv, .bool PP.1.no] 56 (0, 0))) ∧ Hid (FlAt wc (.slice a8 PP.1.fl.length c8) PP.1.fl) ∧ Hid (Below wr.heap.size wr wc))
      case first =>
        go_region_held3 (fun w' => w'.cell? ⟨g, 0, none⟩ = some (.slice va1 qn vc1) ∧ w'.cell? ⟨g, 1, none⟩ = some (.int .i64 Lq.1.gv) ∧ w'.cell? ⟨g, 2, none⟩ = some (.bool Lq.1.no) ∧ w'.cell? ⟨mb, mo + q * 3, none⟩ = some (.int .i64 x.f) ∧ w'.cell? ⟨mb, mo + q * 3 + 1, none⟩ = some (.int .i64 x.t) ∧ w'.cell? ⟨mb, mo + q * 3 + 2, none⟩ = some (.string x.b))
          (first
          | (refine HSW.out _ ?_; repeat (first | exact Below.refl _ _ | exact HB4.out | refine below_drew ?_ | refine ext_alloc ?_ _ | refine ext_set ?_ (by first | exact Nat.le_refl _ | exact HB4.out.size)))
          | go_keep)
          (first
          | (go_at_call 48
             refine (HP.out wr.drew (below_drew (Below.refl _ _))).mono ?_
             rintro e w4 ⟨v4, rfl, hf4, hb4⟩
             obtain ⟨a4, c4, rfl, _⟩ := fl_form hf4
             have HB4 : Hid (Below wr.heap.size wr w4) := of_drew hb4
             have HF4 : Hid (FlAt w4 (.slice a4 PP.1.fl.length c4) PP.1.fl) := hf4
             clear hf4 hb4)
          | (go_at_call 48
             refine (HP.out (wr.drew.alloc (.cells #[.slice none 0 0, .int .i64 0, .bool false] 56)) ((below_drew (Below.refl _ _)).alloc (Nat.le_refl _) _)).mono ?_
             rintro e w4 ⟨v4, rfl, hf4, hb4⟩
             obtain ⟨a4, c4, rfl, _⟩ := fl_form hf4
             have hA4 : w4.heap[wr.heap.size]? = some (.cells #[.slice none 0 0, .int .i64 0, .bool false] 56 (0, 0)) := kept_block hb4 (heap_alloc_new wr.drew _)
             have HA4 : Hid _ := hA4
             obtain ⟨q0, q1, q2⟩ := cells_3 hA4
             have f4 := free_of hA4
             have HB4 : Hid (Below wr.heap.size wr w4) := trans2 ((below_drew (Below.refl _ _)).alloc (Nat.le_refl _) _) hb4
             have HF4 : Hid (FlAt w4 (.slice a4 PP.1.fl.length c4) PP.1.fl) := hf4
             clear hf4 hb4 hA4))
        all_goals
          go_wp2_with fail
          go_meet
        case rel => exact ⟨_, a4, c4, rfl, rfl, HB4.out.size, heap_alloc_new _ _, owns_below HF4.out ((Below.refl _ _).alloc (Nat.le_refl _) _), ext_alloc HB4.out _⟩
        case rel => exact ⟨_, a4, c4, rfl, rfl, Nat.le_refl _, fill_3 HA4.out, row_other HF4.out (chg_put3 w4 wr.heap.size _ _ _) (Kind.one HA4.out) (by decide), ext_set (ext_set (ext_set HB4.out (Nat.le_refl _)) (Nat.le_refl _)) (Nat.le_refl _)⟩
      case rest =>
        obtain ⟨g8, a8, c8, rfl, rfl, hg8, HB8, HF8, HBC⟩ := hcut
        clear c0 c1 c2 x0 x1 x2
        have HIC := HI.out.at HBC.out
        obtain ⟨c0, c1, c2⟩ := cells_3 HIC.box
        have fb := free_of HIC.box
        obtain ⟨b0, b1, b2⟩ := cells_3 HB8.out
        have HNX : Hid (SdI w (put_3 wc g (.slice a8 PP.1.fl.length c8) (.int .i64 PP.1.gv) (.bool PP.1.no)) g PP.1 (.slice a8 PP.1.fl.length c8) u6 Lq.2) := HIC.next HG.out.symm HF8.out rfl
        obtain ⟨W5, hW5⟩ : ∃ z, put_3 wc g (.slice a8 PP.1.fl.length c8) (.int .i64 PP.1.gv) (.bool PP.1.no) = z := ⟨_, rfl⟩
        rw [hW5] at HNX
        have HW5 : Hid (((wc.setCell ⟨g, 0, none⟩ (.slice a8 PP.1.fl.length c8)).setCell ⟨g, 1, none⟩ (.int .i64 PP.1.gv)).setCell ⟨g, 2, none⟩ (.bool PP.1.no) = W5) := hW5
        clear hW5 HIC
        go_upto_region 7 with fail
        rw [HW5.out]
        clear c0 c1 c2 fb b0 b1 b2
        go_wp2_with (first
          | (at_builtin; refine wpList_row Try.underlying28 Try.info_int rfl (by decide) rfl _ _ rfl w.heap.size u6 q (Lq.2.map (.int .i64 ·)) rfl (by have h9 := HNX.out.nums; unfold InsOwn at h9; rw [HLN.out] at h9; exact owns_below h9 ((Below.refl _ _).alloc (Nat.le_refl _) _)) W5.heap.size 1 [.int .i64 PP.2] rfl (heap_alloc_new _ _) rfl (by simp [Value.oneCell']) (by unfold maxLen; omega) (by omega) (by rw [World.size_alloc]; have := HNX.out.below.size; omega) ?_
             intro v6 w6 hd6 hg6 ho6
             have HS6 : Hid (SdI w w6 g (L.send (ms.take (q + 1))).1 (.slice a8 PP.1.fl.length c8) v6 (L.send (ms.take (q + 1))).2) := by
               have h9 := HNX.out.push (x := PP.2) ((Below.refl _ _).alloc (Nat.le_refl _) (.cells #[.int .i64 PP.2] 3)) (by rw [HLN.out]; exact hd6) hg6
               rw [HN.out]
               exact h9
             clear hd6 hg6 ho6))
        go_roundw
        case rel => exact ⟨q + 1, _, by go_num, by omega, HS6⟩
        case measure => simp [intOf]; omega
    · obtain rfl : q = mn := by omega
      have hge : ¬ (q : Int) < (q : Int) := by omega
      have HTA : Hid (ms.take q = ms) := by show _ = _; exact List.take_of_length_le (by rw [HMN.out]; exact Nat.le_refl _)
      have hI := HI.out
      rw [HTA.out] at hI
      obtain ⟨va1, vc1, rfl, _⟩ := fl_form hI.row
      obtain ⟨ua, uc, hu, _⟩ := row_form hI.nums
      subst hu
      obtain ⟨R, hR⟩ : ∃ z, L.send ms = z := ⟨_, rfl⟩
      rw [hR] at hI
      have HII : Hid _ := hI
      have HRR : Hid (L.send ms = R) := hR
      obtain ⟨c0, c1, c2⟩ := cells_3 hI.box
      obtain ⟨r0, r1, r2⟩ := cells_3 hI.res
      have fr := free_of hI.res
      clear hI hR
      go_wp2_with fail
      have hc : Chg wr (put_3 wr (g + 1) (.slice va1 R.1.fl.length vc1) (.int .i64 R.1.gv) (.bool R.1.no)) (fun k => k = g + 1) := chg_put3 wr (g + 1) _ _ _
      have hk := Kind.one HII.out.res
      have e := HRR.out
      subst e
      exact bodyPost_ret (results_cell_tmp rfl _ _ (g + 1) 56 _ (0, 0) _ _ rfl rfl (fill_3 HII.out.res) Try.underlying56 rfl (by kernel_rfl)) rfl ⟨_, _, rfl, row_other HII.out.row hc hk (by decide), row_other HII.out.nums hc hk (by decide), fillB_3 HII.out.below (by rw [HG.out]; omega)⟩
set_option maxHeartbeats 1600000 in
set_option maxRecDepth 100000 in
theorem refNumbers_any (l : List PcT) (gv : Nat) (no : Bool) (v : Value) (w : World) (h : FlAt w v l) (hl : l.length ≤ 256) :
    Calls Try.prog 27 #[lnV v gv no] w fun e w' => ∃ u, e = .returned u ∧ InsOwn w' w.heap.size u (l.map fun p => (p.n : Int)) ∧ Below w.heap.size w w' := by
  obtain ⟨a, c, rfl, _⟩ := fl_form h
  obtain ⟨qn, hqn⟩ : ∃ z, l.length = z := ⟨_, rfl⟩
  have HFL : Hid (FlAt w (.slice a qn c) l) := by rw [← hqn]; exact h
  rw [hqn] at hl ⊢
  obtain ⟨W, hW⟩ : ∃ W, w.alloc (.cells #[.slice a qn c, .int .i64 gv, .bool no] 56) = W := ⟨_, rfl⟩
  have hA : W.heap[w.heap.size]? = some (.cells #[.slice a qn c, .int .i64 gv, .bool no] 56 (0, 0)) := by rw [← hW]; exact heap_alloc_new _ _
  have hb : Below w.heap.size w W := by rw [← hW]; exact (Below.refl _ _).alloc (Nat.le_refl _) _
  have HW : Hid (w.alloc (.cells #[.slice a qn c, .int .i64 gv, .bool no] 56) = W) := hW
  have HB : Hid (Below w.heap.size w W) := hb
  have HA : Hid (W.heap[w.heap.size]? = some (.cells #[.slice a qn c, .int .i64 gv, .bool no] 56 (0, 0))) := hA
  have HQ : Hid (l.length = qn) := hqn
  have HS0 : Hid (InsOwn W w.heap.size (.slice none 0 0) [] ∧ Below W.heap.size W W) := ⟨owns_nil _ _ _ _, Below.refl _ _⟩
  clear hW hA hb hqn h
  go_enter Try.func27, Try.ntmps27
  go_upto_region 1 with fail
  rw [HW.out]
  go_wp2_with fail
  go_loopw [3, 4] (fun nv i wr => ∃ q : Nat, i = .int .i64 q ∧ q ≤ qn ∧ Hid (w.heap.size ≤ wr.heap.size ∧ wr.heap[w.heap.size]? = some (.cells #[.slice a qn c, .int .i64 gv, .bool no] 56 (0, 0)) ∧ wr.ownsRow w.heap.size 3 1 nv q ((l.take q).map fun p => .int .i64 (p.n : Int)) ∧ Below w.heap.size w wr)) (fun _ i _ => qn - (intOf i).toNat)
  case atStart => exact ⟨0, rfl, Nat.zero_le _, HB.out.size, HA.out, owns_nil _ _ _ _, HB.out⟩
  case round =>
    obtain ⟨q, rfl, hq, HI⟩ := hrel
    obtain ⟨c0, c1, c2⟩ := cells_3 HI.out.2.1
    by_cases hlt : q < qn
    · have hqi : (q : Int) < (qn : Int) := by omega
      obtain ⟨x, hx⟩ : ∃ x, l[q]? = some x := ⟨l[q]'(by rw [HQ.out]; exact hlt), List.getElem?_eq_getElem _⟩
      obtain ⟨g, cc, hv, hg, x0, _⟩ := fl_get (owns_below HFL.out HI.out.2.2.2) hx
      obtain ⟨rfl, rfl⟩ : a = some ⟨g, 0, none⟩ ∧ c = cc := by simp only [Value.slice.injEq] at hv; exact ⟨hv.1, hv.2.2⟩
      have HT : Hid ((l.take q).map (fun p => Value.int .i64 (p.n : Int)) ++ [.int .i64 (x.n : Int)] = (l.take (q + 1)).map fun p => .int .i64 (p.n : Int)) := by show _ = _; rw [take_at hx, List.map_append]; rfl
      clear hx hg hv
      go_wp2_with (first
        | (at_builtin; refine wpList_row Try.underlying28 Try.info_int rfl (by decide) rfl _ _ rfl w.heap.size u3 q ((l.take q).map fun p => .int .i64 (p.n : Int)) rfl (owns_below HI.out.2.2.1 ((Below.refl _ _).alloc (Nat.le_refl _) _)) wr.heap.size 1 [.int .i64 (x.n : Int)] rfl (heap_alloc_new _ _) rfl (by simp [Value.oneCell']) (by unfold maxLen; omega) (by omega) (by rw [World.size_alloc]; have := HI.out.1; omega) ?_
           intro v6 w6 hd6 hg6 ho6
           have hal : Below wr.heap.size wr (wr.alloc (.cells #[.int .i64 (x.n : Int)] 3)) := (Below.refl _ _).alloc (Nat.le_refl _) _
           have HS6 : Hid (w.heap.size ≤ w6.heap.size ∧ w6.heap[w.heap.size]? = some (.cells #[.slice (some ⟨g, 0, none⟩) qn c, .int .i64 gv, .bool no] 56 (0, 0)) ∧ w6.ownsRow w.heap.size 3 1 v6 (q + 1) ((l.take (q + 1)).map fun p => .int .i64 (p.n : Int)) ∧ Below w.heap.size w w6) := by
             have hb6 : Below w.heap.size w w6 := grown_in (trans2 HI.out.2.2.2 hal) hg6 (fun k hk => (row_block HI.out.2.2.1 k hk).1) (Nat.le_refl _)
             refine ⟨hb6.size, blk_other (kept_block hal HI.out.2.1) (Chg.grown hg6) (Kind.own (owns_below HI.out.2.2.1 hal)) (by decide), ?_, hb6⟩
             rw [← HT.out]
             exact hd6
           clear hd6 hg6 ho6 hal))
      go_roundw
      case rel => exact ⟨q + 1, by go_num, by omega, HS6⟩
      case measure => simp [intOf]; omega
    · obtain rfl : q = qn := by omega
      have hge : ¬ (q : Int) < (q : Int) := by omega
      have HR : Hid (InsOwn wr w.heap.size u3 (l.map fun p => (p.n : Int))) := by
        have h9 := HI.out.2.2.1
        rw [List.take_of_length_le (by rw [HQ.out]; exact Nat.le_refl _)] at h9
        show World.ownsRow _ _ _ _ _ _ _
        rw [List.length_map, HQ.out, List.map_map]
        exact h9
      go_wp2_with fail
      go_ret
      exact ⟨_, rfl, HR.out, HI.out.2.2.2⟩
end Go.Proofs.Ytfcobhgjkibdgaa
