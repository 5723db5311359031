import Derived.Test.YtdjfeomdiljaeaaGreatDoorNtDw
import Derived.Test.YtdjfeomdiljaeaaGreatDoorNtSb
namespace Go.Proofs.YtdjfeomdiljaeaaGreatDoor
open Go.RowKit
set_option linter.unusedVariables false
set_option linter.unusedSimpArgs false

set_option maxHeartbeats 6400000 in
set_option maxRecDepth 100000 in
theorem decV_any (a : Option Addr) (c : Nat) (w : World) (hx : Bys w a dV) (hc : dV.length ≤ c) (hcm : c ≤ maxLen) (hlt : ∀ b o, a = some ⟨b, o, none⟩ → b < w.heap.size) (hKb : ∀ w', Below w.heap.size w w' → KfAt w') (hg : Ground w) :
    Calls Tryz.prog 22 #[.slice a 4 c] w fun e w' => e = .returned (.tuple #[.agg #[.int .i64 22, .int .i64 3, .int .i64 2, .int .i64 1, .int .i64 0, .int .i64 0, .int .i64 0, .int .i64 0, .int .i64 0, .int .i64 0, .int .i64 0, .slice none 0 0, .slice none 0 0, .int .i64 0, .int .i64 0, .int .i64 0, .slice none 0 0, .slice none 0 0, .slice none 0 0, .slice none 0 0, .string ⟨#[]⟩], .int .i64 0]) ∧ Below w.heap.size w w' := by
  obtain ⟨w1, hw1⟩ : ∃ w1, w.alloc (.cells #[.slice a 4 c] 25) = w1 := ⟨_, rfl⟩
  have HW1 : Hid (w.alloc (.cells #[.slice a 4 c] 25) = w1) := hw1
  have HB1 : Hid (Below w.heap.size w w1) := by rw [← hw1]; exact (Below.refl _ _).alloc (Nat.le_refl _) _
  have HS1 : Hid (w1.heap.size = w.heap.size + 1) := by show _ = _; rw [← hw1]; simp
  have HX1 : Hid (w1.heap[w.heap.size]? = some (.cells #[.slice a 4 c] 25 (0, 0))) := by show _ = _; rw [← hw1]; exact heap_alloc_new _ _
  obtain ⟨w2, hw2⟩ : ∃ w2, w1.alloc (.cells #[.int .i64 0, .int .i64 0, .int .i64 0, .int .i64 0, .int .i64 0, .int .i64 0, .int .i64 0, .int .i64 0, .int .i64 0, .int .i64 0, .int .i64 0, .slice none 0 0, .slice none 0 0, .int .i64 0, .int .i64 0, .int .i64 0, .slice none 0 0, .slice none 0 0, .slice none 0 0, .slice none 0 0, .string ⟨#[]⟩] 51) = w2 := ⟨_, rfl⟩
  have HW2 : Hid (w1.alloc (.cells #[.int .i64 0, .int .i64 0, .int .i64 0, .int .i64 0, .int .i64 0, .int .i64 0, .int .i64 0, .int .i64 0, .int .i64 0, .int .i64 0, .int .i64 0, .slice none 0 0, .slice none 0 0, .int .i64 0, .int .i64 0, .int .i64 0, .slice none 0 0, .slice none 0 0, .slice none 0 0, .slice none 0 0, .string ⟨#[]⟩] 51) = w2) := hw2
  have HB2 : Hid (Below w.heap.size w w2) := by rw [← hw2]; exact HB1.out.alloc HB1.out.size _
  have HS2 : Hid (w2.heap.size = w.heap.size + 2) := by show _ = _; rw [← hw2]; simp [HS1.out]
  have HX2 : Hid (w2.heap[w.heap.size]? = some (.cells #[.slice a 4 c] 25 (0, 0))) := by show _ = _; rw [← hw2]; exact new_old HX1.out _
  have HY2 : Hid (w2.heap[w.heap.size + 1]? = some (.cells #[.int .i64 0, .int .i64 0, .int .i64 0, .int .i64 0, .int .i64 0, .int .i64 0, .int .i64 0, .int .i64 0, .int .i64 0, .int .i64 0, .int .i64 0, .slice none 0 0, .slice none 0 0, .int .i64 0, .int .i64 0, .int .i64 0, .slice none 0 0, .slice none 0 0, .slice none 0 0, .slice none 0 0, .string ⟨#[]⟩] 51 (0, 0))) := by show _ = _; rw [← hw2]; exact heap_new' HS1.out
  have hba : Below w2.heap.size w2 (w2_n w2) := ((Below.refl _ _).alloc (Nat.le_refl _) _).alloc (by simp) _
  have hb3 := xtransN HB2.out hba
  have HAn : Hid _ := ans_n 63 #[.pointer (some ⟨w.heap.size, 0, none⟩)] w2 PRv (fun _ => False) Tryz.call63
    (dec2_V w.heap.size a c (w2_n w2) (kept_block hba HX2.out) (hx.below hb3) hc hcm (fun b o e => Nat.lt_of_lt_of_le (hlt b o e) hb3.size) (fun w' hb => hKb w' (xtransN hb3 hb)) (hg.below hb3))
  clear hw1 hw2 hx hc hcm hlt hba hb3 hKb hg
  go_enter Tryz.func22, Tryz.ntmps22
  go_upto_region 1 with fail
  rw [HW1.out, HW2.out]
  have c0 := cells_1 HX2.out
  go_wp2_with (first
    | (go_at_call 62; refine Calls.mono HAn.out ?_
       rintro e w3 ⟨w4, hb4, hs4, hc4, ⟨V, rfl, rfl⟩ | ⟨hno, rfl⟩⟩
       rotate_left
       · exact hno.elim)
    | (refine wpList_store_row rfl 51 _ _ rfl (w.heap.size + 1) #[.int .i64 22, .int .i64 3, .int .i64 2, .int .i64 1, .int .i64 0, .int .i64 0, .int .i64 0, .int .i64 0, .int .i64 0, .int .i64 0, .int .i64 0, .slice none 0 0, .slice none 0 0, .int .i64 0, .int .i64 0, .int .i64 0, .slice none 0 0, .slice none 0 0, .slice none 0 0, .slice none 0 0, .string ⟨#[]⟩] rfl rfl 51 _ (kept_chg2 hb4 hc4 HY2.out (by have := HS2.out; omega)) (by kernel_rfl) rfl (by first | kernel_rfl | (simp; rfl)) ?_)
    | fail)
  have hy := kept_chg2 hb4 hc4 HY2.out (by have := HS2.out; omega)
  have hz2 := HS2.out
  refine bodyPost_ret (results_cellT rfl _ _ (w.heap.size + 1) 51 _ (0, 0) _ _ rfl rfl (row_setA hy) Tryz.underlying51 rfl (by kernel_rfl)) rfl ?_
  exact ⟨rfl, (HB2.out.trans ((hb4.mono (by omega)).trans (hc4.below (by have := hb4.size; omega) (fun j _ hj => by omega)))).trans ((row_chgA hy).below (by have := lt_of_blk hy; omega) (fun k _ e => by omega))⟩
end Go.Proofs.YtdjfeomdiljaeaaGreatDoor
namespace Go.Proofs.YtdjfeomdiljaeaaGreatDoor
open Go.RowKit
set_option linter.unusedVariables false
set_option linter.unusedSimpArgs false

abbrev bOp : OpN := ⟨2, ⟨#[47, 97]⟩, ⟨#[120]⟩, -1, 0⟩
abbrev bNo (g : Nat) : NoN := { zNo with K := 2, se := 1, rq := 2, opsA := some ⟨g, 0, none⟩, opsC := 1, ops := [bOp] }
abbrev oNo : NoN := { zNo with K := 1 }
abbrev ioSe : WrT := (fun N => nmL N.se, fun N => inN N.se)
abbrev ioRq : WrT := (fun N => nmL N.rq, fun N => inN N.rq)
abbrev ioOps : WrT := (fun N => lsL opL N.ops, fun N => N.ops.length ≤ 1000000 ∧ ∀ x ∈ N.ops, OpN.Ok x)
theorem wt2 : wtS (kfT[2]'(by decide)) = [ioSe, ioRq, ioOps].map some := by kernel_rfl
theorem wt1 : wtS (kfT[1]'(by decide)) = [ioSe].map some := by kernel_rfl
theorem ft2 : fT (kfT[2]'(by decide)) = [((fun N => (1 ≤ N.se ∧ N.se ≤ 2147483647)), (fun N => { N with se := 0 })), ((fun N => (1 ≤ N.rq ∧ N.rq ≤ 2147483647)), (fun N => { N with rq := 0 })), ((fun N => (((0 : Int) ≤ (N.ops.length : Int) ∧ (N.ops.length : Int) ≤ 4) ∧ ∀ x ∈ N.ops, OpN.Ok x)), (fun N => { N with opsA := none, opsC := 0, ops := [] }))] := by kernel_rfl
theorem ft1 : fT (kfT[1]'(by decide)) = [((fun N => (1 ≤ N.se ∧ N.se ≤ 2147483647)), (fun N => { N with se := 0 }))] := by kernel_rfl
theorem bOp_ok : OpN.Ok bOp := ⟨by intro n hn; simp at hn; rcases hn with rfl | rfl <;> decide, by decide, by decide, by decide⟩
theorem bNo_ok (g : Nat) : ChkP (kfT[2]'(by decide)) (bNo g) := by
  unfold ChkP
  rw [ft2]
  refine ⟨fun t ht => ?_, ?_⟩
  · simp only [List.mem_cons, List.not_mem_nil, or_false] at ht
    rcases ht with rfl | rfl | rfl
    · exact (show (1 : Int) ≤ 1 ∧ (1 : Int) ≤ 2147483647 by decide)
    · exact (show (1 : Int) ≤ 2 ∧ (2 : Int) ≤ 2147483647 by decide)
    · exact ⟨(show (0 : Int) ≤ 1 ∧ (1 : Int) ≤ 4 by decide), fun x hx => by rw [List.mem_singleton.1 hx]; exact bOp_ok⟩
  · exact ⟨rfl, rfl, rfl, rfl, rfl, rfl, rfl, rfl, rfl, rfl, rfl, rfl, ⟨rfl, rfl, rfl, rfl⟩, rfl, rfl, rfl, rfl⟩
theorem oNo_no : ¬ ChkP (kfT[1]'(by decide)) oNo := fun h => by
  have h1 := h.1
  rw [ft1] at h1
  have h2 := (h1 _ (List.mem_singleton.2 rfl)).1
  exact absurd h2 (by decide)
def dB : List Int := [2, 1, 2, 1, 2, 2, 47, 97, 1, 120, 0, 0]
theorem dB_is (g : Nat) : nmL 2 ++ [ioSe, ioRq, ioOps].flatMap (fun t => t.1 (bNo g)) = dB := by
  show nmL 2 ++ (nmL 1 ++ (nmL 2 ++ ((nmL 1 ++ ((nmL 2 ++ (textL ⟨#[47, 97]⟩ ++ (textL ⟨#[120]⟩ ++ (vrL (-1) ++ nmL 0)))) ++ [])) ++ []))) = dB
  have t1 : textL ⟨#[47, 97]⟩ = numL 2 ++ strL ⟨#[47, 97]⟩ := by unfold textL; rw [if_pos (by decide)]; rfl
  have t2 : textL ⟨#[120]⟩ = numL 1 ++ strL ⟨#[120]⟩ := by unfold textL; rw [if_pos (by decide)]; rfl
  have t3 : vrL (-1) = nmL 0 := by unfold vrL; rw [if_pos rfl]
  rw [t1, t2, t3]
  unfold nmL
  rw [numL_small (show (2 : Int).toNat < 128 by decide), numL_small (show (1 : Int).toNat < 128 by decide), numL_small (show (0 : Int).toNat < 128 by decide), numL_small (show 2 < 128 by decide), numL_small (show 1 < 128 by decide)]
  rfl
theorem bys_lit (W : World) (l : List Int) : Bys (W.alloc (.cells (bv l).toArray 5)) (some ⟨W.heap.size, 0, none⟩) l := by
  refine .inr ⟨W.heap.size, 0, rfl, by simp, fun j x hj => ?_⟩
  have hb := heap_alloc_new W (.cells (bv l).toArray 5)
  unfold World.cell?
  rw [hb]
  simp [bv, hj]
set_option maxHeartbeats 6400000 in
set_option maxRecDepth 100000 in
theorem begins_any (w : World) (hg : Ground w) (hKb : ∀ w', Below w.heap.size w w' → KfAt w') : Calls Tryz.prog 6 #[] w fun e w' => e = .returned (.bool true) ∧ Below w.heap.size w w' := by
  have HG : Hid (Ground w) := hg
  have HKB : Hid (∀ w', Below w.heap.size w w' → KfAt w') := hKb
  obtain ⟨g, hgs⟩ : ∃ g, w.heap.size = g := ⟨_, rfl⟩
  obtain ⟨w1, hw1⟩ : ∃ w1, w.alloc (.cells #[.int .i64 2, .string ⟨#[47, 97]⟩, .string ⟨#[120]⟩, .int .i64 (-1), .int .i64 0] 60) = w1 := ⟨_, rfl⟩
  have HW1 : Hid (w.alloc (.cells #[.int .i64 2, .string ⟨#[47, 97]⟩, .string ⟨#[120]⟩, .int .i64 (-1), .int .i64 0] 60) = w1) := hw1
  have HB1 : Hid (Below w.heap.size w w1) := by rw [← hw1]; exact (Below.refl _ _).alloc (Nat.le_refl _) _
  have hrow1 : RowC w1 (some ⟨g, 0, none⟩) 5 ([bOp].map OpN.cl) := rowC_flat (f := OpN.cl) (L := [bOp]) (fun _ => rfl) (show 1 ≤ maxLen by decide) (by rw [← hw1, ← hgs]; exact heap_alloc_new _ _)
  have hA1 : (bNo g).At w1 := by
    have hr : ∀ (a : Option Addr) (k : Nat), RowC w1 a k [] := fun a k => ⟨by decide, .inl rfl⟩
    exact ⟨hrow1, Nat.le_refl _, hr _ _, fun x hx => (by cases hx), Nat.zero_le _, hr _ _, fun x hx => (by cases hx), Nat.zero_le _, hr _ _, Nat.zero_le _, hr _ _, fun x hx => (by cases hx), Nat.zero_le _, hr _ _, fun x hx => (by cases hx), Nat.zero_le _⟩
  have HE1 : Hid (Calls Tryz.prog 20 #[.agg #[.int .i64 2, .int .i64 0, .int .i64 0, .int .i64 0, .int .i64 1, .int .i64 0, .int .i64 2, .int .i64 0, .int .i64 0, .int .i64 0, .int .i64 0, .slice (some ⟨g, 0, none⟩) 1 1, .slice none 0 0, .int .i64 0, .int .i64 0, .int .i64 0, .slice none 0 0, .slice none 0 0, .slice none 0 0, .slice none 0 0, .string ⟨#[]⟩]] w1 (EncN (ChkP (kfT[2]'(by decide)) (bNo g)) dB w1)) := by
    have h9 := enc_any (bNo g) 2 (kfT[2]'(by decide)) [ioSe, ioRq, ioOps] (by decide) (by decide) rfl rfl wt2 (fun _ t ht => by
      simp only [List.mem_cons, List.not_mem_nil, or_false] at ht
      rcases ht with rfl | rfl | rfl
      · exact (show (0 : Int) ≤ 1 ∧ (1 : Int) ≤ 2147483647 by decide)
      · exact (show (0 : Int) ≤ 2 ∧ (2 : Int) ≤ 2147483647 by decide)
      · exact ⟨(show 1 ≤ 1000000 by decide), fun x hx => by rw [List.mem_singleton.1 hx]; exact bOp_ok⟩) (by have h7 := congrArg List.length (dB_is g); rw [List.length_append] at h7; have h8 : dB.length = 12 := rfl; omega) w1 (fun w' hb => HKB.out w' (xtransN HB1.out hb)) hA1 (HG.out.below HB1.out)
    have h10 : nmL ((2 : Nat) : Int) ++ [ioSe, ioRq, ioOps].flatMap (fun t => t.1 (bNo g)) = dB := dB_is g
    rw [h10] at h9
    exact h9
  have HGS : Hid (w.heap.size = g) := hgs
  clear hw1 hrow1 hA1 hg hKb hgs
  go_enter Tryz.func6, Tryz.ntmps6
  go_upto_region 2 with (first
    | (go_at_call 20; rw [HW1.out, HGS.out]; refine Calls.mono HE1.out ?_
       rintro e w2 ⟨ea, ec, zs, code, rfl, (⟨_, rfl, rfl⟩ | ⟨hno, _, _⟩), hrow2, hb2⟩
       rotate_left
       · exact (hno (bNo_ok g)).elim
       have HB2 : Hid (Below w.heap.size w w2) := xtransN HB1.out hb2
       obtain ⟨a', c', e', hby, hz0, _, hz1, hz2⟩ := bys_of_owns hrow2
       cases e'
       have HBY2 : Hid (Bys w2 ea dB) := hby
       clear hrow2 hb2 hby hz0 hz1 hz2)
    | fail)
  obtain ⟨w3, hw3⟩ : ∃ w3, w2.alloc (.cells #[.int .u8 22, .int .u8 3, .int .u8 2, .int .u8 1] 5) = w3 := ⟨_, rfl⟩
  obtain ⟨db, hdb⟩ : ∃ db, w2.heap.size = db := ⟨_, rfl⟩
  have HW3 : Hid (w2.alloc (.cells #[.int .u8 22, .int .u8 3, .int .u8 2, .int .u8 1] 5) = w3) := hw3
  have hb3 : Below w2.heap.size w2 w3 := by rw [← hw3]; exact (Below.refl _ _).alloc (Nat.le_refl _) _
  have HB3 : Hid (Below w.heap.size w w3) := xtransN HB2.out hb3
  have HDV : Hid _ := decV_any (some ⟨db, 0, none⟩) 4 w3 (by rw [← hw3, ← hdb]; exact bys_lit w2 dV) (by decide) (by decide) (fun b o e => by cases e; rw [← hw3, ← hdb]; simp) (fun w' hb => HKB.out w' (xtransN HB3.out hb)) (HG.out.below HB3.out)
  have HDB : Hid (w2.heap.size = db) := hdb
  have HBY3 : Hid (Bys w3 ea dB) := HBY2.out.below hb3
  clear hw3 hb3 hdb
  go_upto_region 3 with (first
    | (go_at_call 22; rw [HW3.out, HDB.out]; refine Calls.mono HDV.out ?_
       rintro e w4 ⟨rfl, hb4⟩
       have HB4 : Hid (Below w.heap.size w w4) := xtransN HB3.out hb4
       have HBY4 : Hid (Bys w4 ea dB) := HBY3.out.below hb4
       clear hb4)
    | (refine wpList_store_row rfl 51 _ _ rfl w4.heap.size #[.int .i64 22, .int .i64 3, .int .i64 2, .int .i64 1, .int .i64 0, .int .i64 0, .int .i64 0, .int .i64 0, .int .i64 0, .int .i64 0, .int .i64 0, .slice none 0 0, .slice none 0 0, .int .i64 0, .int .i64 0, .int .i64 0, .slice none 0 0, .slice none 0 0, .slice none 0 0, .slice none 0 0, .string ⟨#[]⟩] rfl rfl 51 _ (heap_alloc_new _ _) (by kernel_rfl) rfl (by first | kernel_rfl | (simp; rfl)) ?_)
    | fail)
  obtain ⟨w5, hw5⟩ : ∃ w5, (w4.alloc (.cells #[.int .i64 0, .int .i64 0, .int .i64 0, .int .i64 0, .int .i64 0, .int .i64 0, .int .i64 0, .int .i64 0, .int .i64 0, .int .i64 0, .int .i64 0, .slice none 0 0, .slice none 0 0, .int .i64 0, .int .i64 0, .int .i64 0, .slice none 0 0, .slice none 0 0, .slice none 0 0, .slice none 0 0, .string ⟨#[]⟩] 51)).setRow w4.heap.size #[.int .i64 22, .int .i64 3, .int .i64 2, .int .i64 1, .int .i64 0, .int .i64 0, .int .i64 0, .int .i64 0, .int .i64 0, .int .i64 0, .int .i64 0, .slice none 0 0, .slice none 0 0, .int .i64 0, .int .i64 0, .int .i64 0, .slice none 0 0, .slice none 0 0, .slice none 0 0, .slice none 0 0, .string ⟨#[]⟩] = w5 := ⟨_, rfl⟩
  have hy5 : (w4.alloc (.cells #[.int .i64 0, .int .i64 0, .int .i64 0, .int .i64 0, .int .i64 0, .int .i64 0, .int .i64 0, .int .i64 0, .int .i64 0, .int .i64 0, .int .i64 0, .slice none 0 0, .slice none 0 0, .int .i64 0, .int .i64 0, .int .i64 0, .slice none 0 0, .slice none 0 0, .slice none 0 0, .slice none 0 0, .string ⟨#[]⟩] 51)).heap[w4.heap.size]? = some (.cells #[.int .i64 0, .int .i64 0, .int .i64 0, .int .i64 0, .int .i64 0, .int .i64 0, .int .i64 0, .int .i64 0, .int .i64 0, .int .i64 0, .int .i64 0, .slice none 0 0, .slice none 0 0, .int .i64 0, .int .i64 0, .int .i64 0, .slice none 0 0, .slice none 0 0, .slice none 0 0, .slice none 0 0, .string ⟨#[]⟩] 51 (0, 0)) := heap_alloc_new _ _
  obtain ⟨nb, hnb⟩ : ∃ nb, w4.heap.size = nb := ⟨_, rfl⟩
  have HN5 : Hid (NB w5 nb vNo) := by show w5.heap[nb]? = some (.cells #[.int .i64 22, .int .i64 3, .int .i64 2, .int .i64 1, .int .i64 0, .int .i64 0, .int .i64 0, .int .i64 0, .int .i64 0, .int .i64 0, .int .i64 0, .slice none 0 0, .slice none 0 0, .int .i64 0, .int .i64 0, .int .i64 0, .slice none 0 0, .slice none 0 0, .slice none 0 0, .slice none 0 0, .string ⟨#[]⟩] 51 (0, 0)); rw [← hw5, ← hnb]; exact row_setA hy5
  have hb45 : Below w4.heap.size w4 w5 := by rw [← hw5]; exact ((Below.refl _ _).alloc (Nat.le_refl _) _).trans ((row_chgA hy5).below (by simp) (fun k _ e => by omega))
  have HB5 : Hid (Below w.heap.size w w5) := xtransN HB4.out hb45
  have HBY5 : Hid (Bys w5 ea dB) := HBY4.out.below hb45
  rw [hw5, hnb]
  clear hw5 hy5 hnb hb45
  have HE6 : Hid (Calls Tryz.prog 20 #[.agg #[.int .i64 1, .int .i64 0, .int .i64 0, .int .i64 0, .int .i64 0, .int .i64 0, .int .i64 0, .int .i64 0, .int .i64 0, .int .i64 0, .int .i64 0, .slice none 0 0, .slice none 0 0, .int .i64 0, .int .i64 0, .int .i64 0, .slice none 0 0, .slice none 0 0, .slice none 0 0, .slice none 0 0, .string ⟨#[]⟩]] w5 (EncN (ChkP (kfT[1]'(by decide)) oNo) (nmL ((1 : Nat) : Int) ++ [ioSe].flatMap (fun t => t.1 oNo)) w5)) :=
    enc_any oNo 1 (kfT[1]'(by decide)) [ioSe] (by decide) (by decide) rfl rfl wt1 (fun h => (oNo_no h).elim) (by
      show 5 + ((nmL 0) ++ []).length ≤ 1000000
      have := nmLe (n := 0) (by decide)
      rw [List.append_nil]
      omega) w5 (fun w' hb => HKB.out w' (xtransN HB5.out hb)) (zNo_at _ _ rfl rfl rfl rfl rfl rfl) (HG.out.below HB5.out)
  go_upto_region 4 with (first
    | (go_at_call 20; refine Calls.mono HE6.out ?_
       rintro e w6 ⟨ea6, ec6, zs6, code6, rfl, (⟨hyes, _, _⟩ | ⟨_, rfl, rfl⟩), _, hb6⟩
       · exact (oNo_no hyes).elim
       have HB6 : Hid (Below w.heap.size w w6) := xtransN HB5.out hb6
       have HBY6 : Hid (Bys w6 ea dB) := HBY5.out.below hb6
       have HN6 : Hid (NB w6 nb vNo) := kept_block hb6 HN5.out
       clear hb6)
    | fail)
  obtain ⟨w7, hw7⟩ : ∃ w7, w6.alloc (.cells #[.int .u8 2, .int .u8 1, .int .u8 2, .int .u8 1, .int .u8 2, .int .u8 2, .int .u8 47, .int .u8 97, .int .u8 1, .int .u8 120, .int .u8 0, .int .u8 0] 5) = w7 := ⟨_, rfl⟩
  have HW7 : Hid (w6.alloc (.cells #[.int .u8 2, .int .u8 1, .int .u8 2, .int .u8 1, .int .u8 2, .int .u8 2, .int .u8 47, .int .u8 97, .int .u8 1, .int .u8 120, .int .u8 0, .int .u8 0] 5) = w7) := hw7
  have hb7 : Below w6.heap.size w6 w7 := by rw [← hw7]; exact (Below.refl _ _).alloc (Nat.le_refl _) _
  obtain ⟨lb, hlb⟩ : ∃ lb, w6.heap.size = lb := ⟨_, rfl⟩
  have HLB : Hid (w6.heap.size = lb) := hlb
  have HSM : Hid (Calls Tryz.prog 10 #[.slice ea dB.length ec, .slice (some ⟨lb, 0, none⟩) dB.length 12] w7 fun e w' => e = .returned (.bool true) ∧ ∃ m, w' = w7.drewN m) := by
    have h9 := sameL ea (some ⟨lb, 0, none⟩) ec 12 dB dB w7 (HBY6.out.below hb7) (by rw [← hw7, ← hlb]; exact bys_lit w6 dB) (by decide)
    rw [decide_eq_true rfl] at h9
    exact h9
  have HN7 : Hid (NB w7 nb vNo) := kept_block hb7 HN6.out
  have HB7 : Hid (Below w.heap.size w w7) := xtransN HB6.out hb7
  have k0 : ∀ m, (w7.drewN m).cell? ⟨nb, 0, none⟩ = some (.int .i64 22) := fun m => HN7.out.cell (i := 0) rfl
  have k1 : ∀ m, (w7.drewN m).cell? ⟨nb, 1, none⟩ = some (.int .i64 3) := fun m => HN7.out.cell (i := 1) rfl
  have k2 : ∀ m, (w7.drewN m).cell? ⟨nb, 2, none⟩ = some (.int .i64 2) := fun m => HN7.out.cell (i := 2) rfl
  have k3 : ∀ m, (w7.drewN m).cell? ⟨nb, 3, none⟩ = some (.int .i64 1) := fun m => HN7.out.cell (i := 3) rfl
  clear hw7 hb7 hlb
  go_wp2_with (first
    | (go_at_call 10; rw [HW7.out, HLB.out]; refine Calls.mono HSM.out ?_; rintro e w8 ⟨rfl, m, rfl⟩)
    | fail)
  go_ret
  exact ⟨rfl, below_drewN HB7.out m⟩
end Go.Proofs.YtdjfeomdiljaeaaGreatDoor
