/-
  tree: the desk at which ops are handed in.
-/
import Derived.Test.YtfjklpgnlkgfoaaGreatDoorTNone2
import Derived.Test.YtfjklpgnlkgfoaaGreatDoorTKnown
namespace Go.Proofs.YtfjklpgnlkgfoaaGreatDoor
open Go.RowKit Go.Maps
set_option linter.unusedVariables false
set_option linter.unusedSimpArgs false

theorem Tryz.infoO : (Tryz.prog.info? 53).map (fun i => (i.zero, i.size, i.bytes)) = some (some (.agg #[.int .i64 0, .string ⟨#[]⟩, .string ⟨#[]⟩, .int .i64 0, .int .i64 0]), 5, 56) := by kernel_rfl

structure OpT where
  k : Int
  p : ByteArray
  d : ByteArray
  v : Int
  f : Int
abbrev OpT.cells (o : OpT) : List Value := [.int .i64 o.k, .string o.p, .string o.d, .int .i64 o.v, .int .i64 o.f]
def opCs (os : List OpT) : List Value := (os.map OpT.cells).flatten
/-- The ops lie below base. -/
def OpsAt (w : World) (base : Nat) (a : Option Addr) (os : List OpT) : Prop :=
  ∀ i o, os[i]? = some o → ∃ b f, a = some ⟨b, f, none⟩ ∧ b < base ∧ ∀ j x, o.cells[j]? = some x → w.cell? ⟨b, f + i * 5 + j, none⟩ = some x
def DeskAt (w : World) (base db : Nat) (dv : Value) : Prop := w.heap[db]? = some (.cells #[dv] 34 (0, 0)) ∧ base ≤ db ∧ ∃ n xs, w.ownsRow base 53 5 dv n xs

theorem desk_grown {wr w4 : World} {o : Obj} {base db q : Nat} {u : Value} {xs : List Value} (h : ∃ dv, wr.heap[db]? = some (.cells #[dv] 34 (0, 0))) (hr : wr.ownsRow base 53 5 u q xs) (hg : (wr.alloc o).grownBy w4 u.ownBlock) : ∃ dv, w4.heap[db]? = some (.cells #[dv] 34 (0, 0)) := by
  obtain ⟨dv, h⟩ := h
  have hl : db < wr.heap.size := (Array.getElem?_eq_some_iff.1 h).1
  refine ⟨dv, ?_⟩
  rw [hg.block db (by simp; omega) (fun e => ?_)]
  · exact heap_alloc_old h
  · obtain ⟨cur, hc⟩ := owns_kind hr e.symm
    rw [h] at hc
    cases hc
theorem chg_app {w wr w4 : World} {u dv : Value} {db : Nat} {o : Obj} (hC : Chg w wr (fun k => k = db ∨ dv.ownBlock = some k)) (hu : ∀ k, u.ownBlock = some k → dv.ownBlock = some k ∨ w.heap.size ≤ k) (hg : (wr.alloc o).grownBy w4 u.ownBlock) : Chg w w4 (fun k => k = db ∨ dv.ownBlock = some k) := by
  have h1 : Chg wr w4 (fun k => u.ownBlock = some k) := (Chg.alloc wr o _).trans (Chg.grown hg)
  refine ⟨h1.os.trans hC.os, h1.tape.trans hC.tape, h1.output.trans hC.output, Nat.le_trans hC.size h1.size, fun k hk hn => ?_⟩
  rw [h1.block k (Nat.lt_of_lt_of_le hk hC.size) (fun e => ?_), hC.block k hk hn]
  rcases hu k e with h | h
  · exact hn (.inr h)
  · omega
theorem own_app {w wr : World} {u dv : Value} {g H n c : Nat} (hu : ∀ k, u.ownBlock = some k → dv.ownBlock = some k ∨ w.heap.size ≤ k) (hat : u.ownBlock = some g ∨ g = H) (hH : w.heap.size ≤ H) : ∀ k, (Value.slice (some ⟨g, 0, none⟩) n c).ownBlock = some k → dv.ownBlock = some k ∨ w.heap.size ≤ k := by
  intro k hk
  simp only [Value.ownBlock, Option.some.injEq] at hk
  subst hk
  rcases hat with h | h
  · exact hu _ h
  · exact .inr (by omega)
theorem desk_end {w w4 : World} {base db g n cap : Nat} {dv : Value} {xs : List Value} (hbs : base ≤ w.heap.size) (hdl : base ≤ db) (hd : w4.heap[db]? = some (.cells #[dv] 34 (0, 0))) (hr : w4.ownsRow base 53 5 (.slice (some ⟨g, 0, none⟩) n cap) n xs) (hb : Below base w w4) :
    DeskAt (w4.setCell ⟨db, 0, none⟩ (.slice (some ⟨g, 0, none⟩) n cap)) base db (.slice (some ⟨g, 0, none⟩) n cap) ∧ (w4.setCell ⟨db, 0, none⟩ (.slice (some ⟨g, 0, none⟩) n cap)).ownsRow base 53 5 (.slice (some ⟨g, 0, none⟩) n cap) n xs ∧ Below base w (w4.setCell ⟨db, 0, none⟩ (.slice (some ⟨g, 0, none⟩) n cap)) := by
  have hC := Chg.set w4 ⟨db, 0, none⟩ (.slice (some ⟨g, 0, none⟩) n cap)
  have hR := owns_chg hr hC (fun k hk e => by
    obtain ⟨cur, hc⟩ := owns_kind hr hk
    rw [show k = db from e, hd] at hc
    cases hc)
  have hlt : db < w4.heap.size := (Array.getElem?_eq_some_iff.1 hd).1
  refine ⟨⟨?_, hdl, n, xs, hR⟩, hR, hb.trans (hC.below (Nat.le_trans hbs hb.size) (fun k _ e => by rw [show k = db from e]; exact hdl))⟩
  exact same_blk hd rfl
set_option maxHeartbeats 3200000 in
set_option maxRecDepth 100000 in
theorem twin_any (base db : Nat) (dv : Value) (w : World) (os : List OpT) (a : Option Addr) (c : Nat) (hb : base ≤ w.heap.size) (hd : DeskAt w base db dv) (ho : OpsAt w base a os) (hl : os.length ≤ 2513169434846) :
    Calls Tryz.prog 7 #[.pointer (some ⟨db, 0, none⟩), .slice a os.length c] w fun e w' => ∃ g cap, e = .returned (.slice (some ⟨g, 0, none⟩) (os.length + 2) cap) ∧ DeskAt w' base db (.slice (some ⟨g, 0, none⟩) (os.length + 2) cap) ∧ w'.ownsRow base 53 5 (.slice (some ⟨g, 0, none⟩) (os.length + 2) cap) (os.length + 2) (opCs os ++ [.int .i64 77, .string ⟨#[114, 111, 111, 109]⟩, .string ⟨#[]⟩, .int .i64 0, .int .i64 0, .int .i64 78, .string ⟨#[114, 111, 111, 109]⟩, .string ⟨#[]⟩, .int .i64 0, .int .i64 0]) ∧ Below base w w' ∧ Chg w w' (fun k => k = db ∨ dv.ownBlock = some k) ∧ (dv.ownBlock = some g ∨ w.heap.size ≤ g) := by
  obtain ⟨i0, hi0, hz0, hz1, hz2⟩ := info_parts Tryz.infoO
  obtain ⟨hdb, hdl, dn, dxs, hown⟩ := hd
  have hc := cells_1 hdb
  obtain ⟨DV, hDV⟩ : ∃ DV, DV = dv := ⟨_, rfl⟩
  have HDV : Hid (∀ k, dv.ownBlock = some k → DV.ownBlock = some k ∨ w.heap.size ≤ k) := fun k hk => .inl (by rw [hDV]; exact hk)
  have HEQ : Hid (DV = dv) := hDV
  clear hDV
  have HO : Hid _ := ho
  have HOW : Hid _ := hown
  have HDB : Hid _ := hdb
  clear ho hdb
  have hsnoc : ∀ q o, os[q]? = some o → opCs (os.take (q + 1)) = opCs (os.take q) ++ o.cells := fun q o h => by rw [List.take_add_one, h]; simp [opCs]
  have HSN : Hid _ := hsnoc
  clear hsnoc
  rcases hown.2 with ⟨rfl, h0⟩ | ⟨g, cap, cur, rfl, hg1, hg2, hg3, hg4, hg5, hg6⟩
  all_goals
    clear hown
    go_enter Tryz.func7, Tryz.ntmps7
    go_wp2_with fail
    clear hc
    go_loopw [5, 6] (fun l i wr => ∃ q : Nat, i = .int .i64 q ∧ q ≤ os.length ∧ Hid (wr.ownsRow base 53 5 l q (opCs (os.take q))) ∧ Hid (Below base w wr) ∧ Hid (∃ dv, wr.heap[db]? = some (.cells #[dv] 34 (0, 0))) ∧ Hid (Chg w wr (fun k => k = db ∨ DV.ownBlock = some k)) ∧ Hid (∀ k, l.ownBlock = some k → DV.ownBlock = some k ∨ w.heap.size ≤ k)) (fun _ i _ => os.length - (intOf i).toNat)
    case atStart =>
      refine ⟨0, rfl, Nat.zero_le _, ?_, Below.refl _ _, ⟨_, HDB.out⟩, Chg.refl _ _, HDV.out⟩
      first
        | exact World.ownsRow_nil _ _ _ _
        | exact ⟨rfl, .inr ⟨g, cap, cur, rfl, hg1, hg2, Nat.zero_le _, hg4, hg5, rfl⟩⟩
    case round =>
      obtain ⟨q, rfl, hq, HR, HBk, HD, HCk, HUk⟩ := hrel
      have hsk := HBk.out.size
      by_cases hlt : q < os.length
      · obtain ⟨o, hoq⟩ : ∃ o, os[q]? = some o := ⟨os[q], List.getElem?_eq_getElem hlt⟩
        obtain ⟨b, f, rfl, hbl, hcs⟩ := HO.out q o hoq
        have hk : ∀ j x, o.cells[j]? = some x → wr.cell? ⟨b, f + q * 5 + j, none⟩ = some x := fun j x hx => by rw [HBk.out.cell (p := ⟨b, f + q * 5 + j, none⟩) hbl]; exact hcs j x hx
        have k0 : wr.cell? ⟨b, f + q * 5, none⟩ = some (.int .i64 o.k) := hk 0 _ rfl
        have k1 := hk 1 _ rfl
        have k2 := hk 2 _ rfl
        have k3 := hk 3 _ rfl
        have k4 := hk 4 _ rfl
        have HTK : Hid _ := HSN.out q o hoq
        have hlt' : (q : Int) < (os.length : Int) := by omega
        clear hk hcs hoq
        go_wp2_with (first
          | (at_builtin; refine wpList_append_lies _ rfl _ _ _ rfl base 53 i0 _ 5 56 Tryz.underlying32 hi0 hz0 hz1 hz2 rfl (by omega) u5 q (opCs (os.take q)) rfl (World.ownsRow.alloc HR.out _) ⟨wr.heap.size, 0, none⟩ 1 1 [.int .i64 o.k, .string o.p, .string o.d, .int .i64 o.v, .int .i64 o.f] rfl rfl (World.news_of_block (cs := #[.int .i64 o.k, .string o.p, .string o.d, .int .i64 o.v, .int .i64 o.f]) (t := 53) (fr := (0, 0)) (heap_alloc_new wr _)) (by simp [Value.oneCell']) (by omega) (by unfold maxLen; omega) (by omega) (by simp; omega) (wr.heap.size + 1) (by simp) ?_
             intro g4 cap4 w4 hown4 hgrow4 hat4 hlt4
             have HN4 : Hid (w4.ownsRow base 53 5 (.slice (some ⟨g4, 0, none⟩) (q + 1) cap4) (q + 1) (opCs (os.take (q + 1)))) := by rw [HTK.out]; exact hown4
             have HB4 : Hid (Below base w w4) := HBk.out.trans (((Below.refl _ _).alloc (by omega) _).grown hgrow4 (by simp; omega) (fun j hj => (HR.out.lt j hj).1))
             have HD4 : Hid (∃ dv, w4.heap[db]? = some (.cells #[dv] 34 (0, 0))) := desk_grown HD.out HR.out hgrow4
             have HC4 : Hid (Chg w w4 (fun k => k = db ∨ DV.ownBlock = some k)) := chg_app HCk.out HUk.out hgrow4
             have HU4 : Hid (∀ k, (Value.slice (some ⟨g4, 0, none⟩) (q + 1) cap4).ownBlock = some k → DV.ownBlock = some k ∨ w.heap.size ≤ k) := own_app (wr := wr) HUk.out hat4 (by omega)
             clear hown4 hgrow4 hat4 hlt4)
          | fail)
        go_roundw
        case rel => exact ⟨q + 1, by go_num, by omega, HN4.out, HB4.out, HD4.out, HC4.out, HU4.out⟩
        case measure => simp [intOf]; omega
      · obtain rfl : q = os.length := by omega
        rw [List.take_of_length_le (Nat.le_refl _)] at HR
        go_wp2_with (first
          | (at_builtin; refine wpList_append_lies _ rfl _ _ _ rfl base 53 i0 _ 5 56 Tryz.underlying32 hi0 hz0 hz1 hz2 rfl (by omega) u5 os.length (opCs os) rfl (World.ownsRow.alloc HR.out _) ⟨wr.heap.size, 0, none⟩ 2 2 [.int .i64 77, .string ⟨#[114, 111, 111, 109]⟩, .string ⟨#[]⟩, .int .i64 0, .int .i64 0, .int .i64 78, .string ⟨#[114, 111, 111, 109]⟩, .string ⟨#[]⟩, .int .i64 0, .int .i64 0] rfl rfl (World.news_of_block (cs := #[.int .i64 77, .string ⟨#[114, 111, 111, 109]⟩, .string ⟨#[]⟩, .int .i64 0, .int .i64 0, .int .i64 78, .string ⟨#[114, 111, 111, 109]⟩, .string ⟨#[]⟩, .int .i64 0, .int .i64 0]) (t := 53) (fr := (0, 0)) (heap_alloc_new wr _)) (by simp [Value.oneCell']) (by omega) (by unfold maxLen; omega) (by omega) (by simp; omega) (wr.heap.size + 1) (by simp) ?_
             intro g4 cap4 w4 hown4 hgrow4 hat4 hlt4
             have HN4 : Hid (w4.ownsRow base 53 5 (.slice (some ⟨g4, 0, none⟩) (os.length + 2) cap4) (os.length + 2) (opCs os ++ [.int .i64 77, .string ⟨#[114, 111, 111, 109]⟩, .string ⟨#[]⟩, .int .i64 0, .int .i64 0, .int .i64 78, .string ⟨#[114, 111, 111, 109]⟩, .string ⟨#[]⟩, .int .i64 0, .int .i64 0])) := hown4
             have HB4 : Hid (Below base w w4) := HBk.out.trans (((Below.refl _ _).alloc (by omega) _).grown hgrow4 (by simp; omega) (fun j hj => (HR.out.lt j hj).1))
             have HC4 : Hid (Chg w w4 (fun k => k = db ∨ DV.ownBlock = some k)) := chg_app HCk.out HUk.out hgrow4
             have HU4 : Hid (∀ k, (Value.slice (some ⟨g4, 0, none⟩) (os.length + 2) cap4).ownBlock = some k → DV.ownBlock = some k ∨ w.heap.size ≤ k) := own_app (wr := wr) HUk.out hat4 (by omega)
             obtain ⟨dv4, hd4⟩ := desk_grown HD.out HR.out hgrow4
             have HD4 : Hid _ := hd4
             have hc4 := cells_1 hd4
             have hf4 := free_1 hd4
             clear hown4 hgrow4 hat4 hlt4 hd4)
          | fail)
        go_ret
        obtain ⟨e1, e2, e3⟩ := desk_end hb hdl HD4.out HN4.out HB4.out
        exact ⟨g4, cap4, rfl, e1, e2, e3, by rw [← HEQ.out]; exact HC4.out.trans ((Chg.set _ _ _).mono (fun _ _ h => .inl h)), by rw [← HEQ.out]; exact HU4.out g4 rfl⟩
end Go.Proofs.YtfjklpgnlkgfoaaGreatDoor
