/-
  note: NoteEntries, the walk.
-/
import Derived.Test.YtdjfeomdiljaeaaGreatDoorNtLw
import Derived.Test.YtdjfeomdiljaeaaGreatDoorNtBg
import Derived.Test.YtdjfeomdiljaeaaGreatDoorNtEd
namespace Go.Proofs.YtdjfeomdiljaeaaGreatDoor
open Go.RowKit
set_option linter.unusedVariables false
set_option linter.unusedSimpArgs false

theorem byt_app {a b : List Int} (ha : Byt a) (hb : Byt b) : Byt (a ++ b) := fun z hz => (List.mem_append.1 hz).elim (ha z) (hb z)
theorem byt_flat {E : Type} {f : E → List Int} (hf : ∀ x, Byt (f x)) (L : List E) : Byt (L.flatMap f) := fun z hz => by
  obtain ⟨x, _, h⟩ := List.mem_flatMap.1 hz
  exact hf x z h
theorem nm_byt (n : Int) : Byt (nmL n) := numL_byt _
theorem text_byt (s : ByteArray) : Byt (textL s) := by
  unfold textL
  split
  · exact byt_app (numL_byt _) (strL_byt s)
  · intro z hz; cases hz
theorem vr_byt (v : Int) : Byt (vrL v) := by
  unfold vrL
  split
  · exact nm_byt _
  · exact byt_app (nm_byt _) (nm_byt _)
theorem op_byt (e : OpN) : Byt (opL e) := byt_app (nm_byt _) (byt_app (text_byt _) (byt_app (text_byt _) (byt_app (vr_byt _) (nm_byt _))))
theorem en_byt (e : EnN) : Byt (enL e) := by
  rw [enL_is]
  exact byt_app (nm_byt _) (byt_app (nm_byt _) (byt_app (nm_byt _) (byt_app (nm_byt _) (byt_app (nm_byt _) (byt_app (nm_byt _) (byt_flat op_byt _))))))
theorem RowC.init {w : World} {a : Option Addr} {k : Nat} {css ds : List (List Value)} (h : RowC w a k (css ++ ds)) : RowC w a k css := by
  refine ⟨by have := h.1; rw [List.length_append] at this; omega, ?_⟩
  rcases h.2 with h0 | ⟨b, o, e, hl, hc⟩
  · left
    exact (List.append_eq_nil_iff.1 h0).1
  · right
    refine ⟨b, o, e, hl, fun j t cs v hj hv => hc j t cs v ?_ hv⟩
    rw [List.getElem?_append_left (List.getElem?_eq_some_iff.1 hj).1]
    exact hj
theorem sameL_yes (a b : Option Addr) (c d : Nat) (zs : List Int) (w : World) (hx : Bys w a zs) (hy : Bys w b zs) (hm : zs.length ≤ maxLen) :
    Calls Tryz.prog 10 #[.slice a zs.length c, .slice b zs.length d] w fun e w' => e = .returned (.bool true) ∧ Below w.heap.size w w' := by
  refine Calls.mono (sameL a b c d zs zs w hx hy hm) ?_
  rintro e w' ⟨rfl, m, rfl⟩
  exact ⟨by rw [decide_eq_true rfl], below_drewN (Below.refl _ _) m⟩
theorem enc_bys {w : World} {B n : Nat} {v : Value} {zs : List Int} (h : w.ownsRow B 5 1 v n (bv zs)) : True := trivial
theorem EnN.Eq.symm {x y : EnN} (h : EnN.Eq x y) : EnN.Eq y x := ⟨h.1.symm, h.2.1.symm, h.2.2.1.symm, h.2.2.2.1.symm, h.2.2.2.2.1.symm, h.2.2.2.2.2.symm⟩
set_option maxHeartbeats 6400000 in
set_option maxRecDepth 100000 in
theorem NoteEntries_walk (x : EnN) (a : Option Addr) (c : Nat) (xs : List Int) (w : World) (hg : Ground w) (hKb : ∀ w', Below w.heap.size w w' → KfAt w') (hA : x.At w) (hn : x.opsA = none → x.opsC = 0) (hLn : (x.ops.length + 1) * 56 ≤ 140737488355328) (hx : Bys w a xs) (hby : Byt xs) (hc : xs.length ≤ c) (hcm : c ≤ maxLen) (hxn : a = none → c = 0) :
    Calls Tryz.prog 3 #[x.val, .slice a xs.length c] w fun e w' => e = .returned (.bool true) ∧ Below w.heap.size w w' := by
  obtain ⟨eb, heb⟩ : ∃ eb, w.heap.size = eb := ⟨_, rfl⟩
  obtain ⟨w1, hw1⟩ : ∃ w1, w.alloc (.cells #[.int .i64 x.st, .int .i64 x.vw, .int .i64 x.K, .int .i64 x.se, .int .i64 x.rq, .slice x.opsA x.ops.length x.opsC] 24) = w1 := ⟨_, rfl⟩
  have HW1 : Hid (w.alloc (.cells #[.int .i64 x.st, .int .i64 x.vw, .int .i64 x.K, .int .i64 x.se, .int .i64 x.rq, .slice x.opsA x.ops.length x.opsC] 24) = w1) := hw1
  have HB1 : Hid (Below w.heap.size w w1) := by rw [← hw1]; exact (Below.refl _ _).alloc (Nat.le_refl _) _
  have HX1 : Hid (w1.heap[eb]? = some (.cells #[.int .i64 x.st, .int .i64 x.vw, .int .i64 x.K, .int .i64 x.se, .int .i64 x.rq, .slice x.opsA x.ops.length x.opsC] 24 (0, 0))) := by show _ = _; rw [← hw1, ← heb]; exact heap_alloc_new _ _
  have HEB : Hid (w.heap.size = eb) := heb
  have HA : Hid (x.At w) := hA
  have HBY : Hid (Bys w a xs) := hx
  have HYT : Hid (Byt xs) := hby
  have HBG : Hid _ := begins_any w1 (hg.below HB1.out) (fun w' hb => hKb w' (xtransN HB1.out hb))
  clear hw1 heb hx hby hA hg hKb
  go_enter Tryz.func3, Tryz.ntmps3
  go_upto_region 1 with fail
  rw [HW1.out, HEB.out]
  go_upto_region 4 with (first
    | (go_at_call 6; refine Calls.mono HBG.out ?_; rintro e w2 ⟨rfl, hb2⟩
       have HB2 : Hid (Below w.heap.size w w2) := xtransN HB1.out hb2
       have HX2 : Hid (w2.heap[eb]? = some (.cells #[.int .i64 x.st, .int .i64 x.vw, .int .i64 x.K, .int .i64 x.se, .int .i64 x.rq, .slice x.opsA x.ops.length x.opsC] 24 (0, 0))) := kept_block hb2 HX1.out
       clear hb2)
    | fail)
  by_cases hlen : xs.length ≤ 300000
  rotate_left
  · have hlen' : (300000 : Int) < (xs.length : Int) := by omega
    go_wp2_with fail
    go_ret
    exact ⟨rfl, HB2.out⟩
  have hlen' : ¬ (300000 : Int) < (xs.length : Int) := by omega
  have HLEN : Hid (xs.length ≤ 300000) := hlen
  obtain ⟨c0, c1, c2, c3, c4, c5⟩ := cells_6N HX2.out
  go_upto_region 7 with fail
  obtain ⟨wb, hwb⟩ : ∃ wb, w2.heap.size = wb := ⟨_, rfl⟩
  obtain ⟨w3, hw3⟩ : ∃ w3, w2.alloc (.cells #[.int .i64 x.st, .int .i64 x.vw, .int .i64 x.K, .int .i64 x.se, .int .i64 x.rq, .slice x.opsA x.ops.length x.opsC] 24) = w3 := ⟨_, rfl⟩
  have hb3 : Below w2.heap.size w2 w3 := by rw [← hw3]; exact (Below.refl _ _).alloc (Nat.le_refl _) _
  have HB3 : Hid (Below w.heap.size w w3) := xtransN HB2.out hb3
  have HX3 : Hid (w3.heap[eb]? = some (.cells #[.int .i64 x.st, .int .i64 x.vw, .int .i64 x.K, .int .i64 x.se, .int .i64 x.rq, .slice x.opsA x.ops.length x.opsC] 24 (0, 0))) := kept_block hb3 HX2.out
  have HV3 : Hid (w3.heap[wb]? = some (.cells #[.int .i64 x.st, .int .i64 x.vw, .int .i64 x.K, .int .i64 x.se, .int .i64 x.rq, .slice x.opsA x.ops.length x.opsC] 24 (0, 0))) := by show _ = _; rw [← hw3, ← hwb]; exact heap_alloc_new _ _
  have HNE : Hid (wb ≠ eb) := by show _ ≠ _; have := lt_of_blk HX2.out; omega
  rw [hw3, hwb]
  clear hw3 hb3 hwb c0 c1 c2 c3 c4 c5
  obtain ⟨c0, c1, c2, c3, c4, c5⟩ := cells_6N HX3.out
  have HRM : Hid _ := room_any x.opsA x.opsC x.ops w3 (HA.out.below HB3.out).ops hn hLn
  go_upto_region 8 with (first
    | (go_at_call 7; refine Calls.mono HRM.out ?_; rintro e w4 ⟨g, cap, rfl, hcap, hrow, hb4⟩
       have HCAP : Hid (x.ops.length + 1 ≤ cap) := hcap
       have HRW4 : Hid (w4.ownsRow w3.heap.size 60 5 (.slice (some ⟨g, 0, none⟩) (x.ops.length + 1) cap) (x.ops.length + 1) (opCs (x.ops ++ [mkOp]))) := hrow
       have HB4 : Hid (Below w.heap.size w w4) := xtransN HB3.out hb4
       have HX4 : Hid (w4.heap[eb]? = some (.cells #[.int .i64 x.st, .int .i64 x.vw, .int .i64 x.K, .int .i64 x.se, .int .i64 x.rq, .slice x.opsA x.ops.length x.opsC] 24 (0, 0))) := kept_block hb4 HX3.out
       have HV4 : Hid (w4.heap[wb]? = some (.cells #[.int .i64 x.st, .int .i64 x.vw, .int .i64 x.K, .int .i64 x.se, .int .i64 x.rq, .slice x.opsA x.ops.length x.opsC] 24 (0, 0))) := kept_block hb4 HV3.out
       have HLO : Hid (w3.heap.size ≤ g ∧ g < w4.heap.size) := hrow.lt g rfl
       clear hcap hrow hb4 c0 c1 c2 c3 c4 c5
       have f6 := free_6 HX4.out
       obtain ⟨c0, c1, c2, c3, c4, c5⟩ := cells_6N HX4.out)
    | fail)
  obtain ⟨w5, hw5⟩ : ∃ w5, w4.setCell ⟨eb, 5, none⟩ (.slice (some ⟨g, 0, none⟩) x.ops.length cap) = w5 := ⟨_, rfl⟩
  have hc45 : Chg w4 w5 (fun j => j = eb) := by rw [← hw5]; exact Chg.set w4 ⟨eb, 5, none⟩ _
  have HX5 : Hid (w5.heap[eb]? = some (.cells #[.int .i64 x.st, .int .i64 x.vw, .int .i64 x.K, .int .i64 x.se, .int .i64 x.rq, .slice (some ⟨g, 0, none⟩) x.ops.length cap] 24 (0, 0))) := by show _ = _; rw [← hw5]; exact same_blk HX4.out rfl
  have HV5 : Hid (w5.heap[wb]? = some (.cells #[.int .i64 x.st, .int .i64 x.vw, .int .i64 x.K, .int .i64 x.se, .int .i64 x.rq, .slice x.opsA x.ops.length x.opsC] 24 (0, 0))) := by show _ = _; rw [hc45.block wb (lt_of_blk HV4.out) HNE.out]; exact HV4.out
  have HB5 : Hid (Below w.heap.size w w5) := HB4.out.trans (hc45.below HB4.out.size (fun k _ e => by have := HEB.out; omega))
  have HGE : Hid (g ≠ eb) := by show _ ≠ _; have := lt_of_blk HX3.out; have := HLO.out.1; omega
  have HRW5 : Hid (w5.ownsRow w3.heap.size 60 5 (.slice (some ⟨g, 0, none⟩) (x.ops.length + 1) cap) (x.ops.length + 1) (opCs (x.ops ++ [mkOp]))) := row_keep HRW4.out hc45 (fun k hk e => by have := lt_of_blk HX3.out; omega)
  rw [hw5]
  clear hw5 hc45 c0 c1 c2 c3 c4 c5 f6
  obtain ⟨x', hx'⟩ : ∃ x' : EnN, (⟨x.st, x.vw, x.K, x.se, x.rq, some ⟨g, 0, none⟩, cap, x.ops⟩ : EnN) = x' := ⟨_, rfl⟩
  have HEQ : Hid (EnN.Eq x' x) := by show EnN.Eq x' x; rw [← hx']; exact ⟨rfl, rfl, rfl, rfl, rfl, rfl⟩
  have HXP : Hid ((⟨x.st, x.vw, x.K, x.se, x.rq, some ⟨g, 0, none⟩, cap, x.ops⟩ : EnN) = x') := hx'
  have hlx : (x.ops ++ [mkOp]).length ≤ maxLen := by rw [List.length_append]; unfold maxLen; simp; omega
  have HRC5 : Hid (RowC w5 (some ⟨g, 0, none⟩) 5 (x.ops.map OpN.cl)) := by
    have h9 : RowC w5 (some ⟨g, 0, none⟩) 5 ((x.ops ++ [mkOp]).map OpN.cl) := ownsC (f := OpN.cl) (k := 5) (fun _ => rfl) hlx HRW5.out (by simp)
    rw [List.map_append] at h9
    exact RowC.init h9
  have HAP5 : Hid (x'.At w5) := by
    show x'.At w5
    rw [← hx']
    exact ⟨HRC5.out, by have := HCAP.out; show x.ops.length ≤ cap; omega⟩
  clear hx' hlx
  go_upto_region 10 with (first
    | (at_builtin; refine wpList_appB rfl _ _ rfl w5.heap.size (.slice none 0 0) [] rfl (World.ownsRow_nil _ _ _ _) a xs.length c xs rfl rfl (HBY.out.below HB5.out) hxn (by simp; omega) (Nat.le_refl _) ?_
       intro v6 w6 ho6 hg6 hat6
       have HT6 : Hid (w6.ownsRow w5.heap.size 5 1 v6 xs.length (bv xs)) := by rw [List.nil_append] at ho6; exact ho6
       have HB56 : Hid (Below w5.heap.size w5 w6) := (Below.refl _ _).grown hg6 (Nat.le_refl _) (fun j hj => (by cases hj))
       obtain ⟨ta, tc, rfl, htb, _, _, ht1, ht2⟩ := bys_of_owns HT6.out
       have HTB : Hid (Bys w6 ta xs) := htb
       have HTC : Hid (xs.length ≤ tc ∧ tc ≤ maxLen) := ⟨ht1, ht2⟩
       clear ho6 hg6 hat6 htb ht1 ht2)
    | fail)
  have HB6 : Hid (Below w.heap.size w w6) := xtransN HB5.out HB56.out
  have HX6 : Hid (w6.heap[eb]? = some (.cells #[.int .i64 x.st, .int .i64 x.vw, .int .i64 x.K, .int .i64 x.se, .int .i64 x.rq, .slice (some ⟨g, 0, none⟩) x.ops.length cap] 24 (0, 0))) := kept_block HB56.out HX5.out
  have HV6 : Hid (w6.heap[wb]? = some (.cells #[.int .i64 x.st, .int .i64 x.vw, .int .i64 x.K, .int .i64 x.se, .int .i64 x.rq, .slice x.opsA x.ops.length x.opsC] 24 (0, 0))) := kept_block HB56.out HV5.out
  have HRW6 : Hid (w6.ownsRow w3.heap.size 60 5 (.slice (some ⟨g, 0, none⟩) (x.ops.length + 1) cap) (x.ops.length + 1) (opCs (x.ops ++ [mkOp]))) := owns_below HRW5.out HB56.out
  have HAP6 : Hid (x'.At w6) := HAP5.out.below HB56.out
  obtain ⟨c0, c1, c2, c3, c4, c5⟩ := cells_6N HX6.out
  have HN1 : Hid (Calls Tryz.prog 8 #[.agg #[.int .i64 x.st, .int .i64 x.vw, .int .i64 x.K, .int .i64 x.se, .int .i64 x.rq, .slice (some ⟨g, 0, none⟩) x.ops.length cap]] w6 (EncE x' w6)) := by
    have h9 := encE_any x' w6 HAP6.out
    have h8 : x'.val = .agg #[.int .i64 x.st, .int .i64 x.vw, .int .i64 x.K, .int .i64 x.se, .int .i64 x.rq, .slice (some ⟨g, 0, none⟩) x.ops.length cap] := by rw [← HXP.out]
    rw [h8] at h9
    exact h9
  go_upto_region 11 with (first
    | (go_at_call 8; refine Calls.mono HN1.out ?_
       rintro e w7 ⟨pa, pc, ps, pcode, rfl, hpc, hpr, hb7⟩
       have HP7 : Hid (x'.Ok ∧ ps = enL x' ∧ pcode = 0 ∨ ¬ x'.Ok ∧ ps = [] ∧ pcode = 30) := hpc
       have HPR7 : Hid (w7.ownsRow w6.heap.size 5 1 (.slice pa ps.length pc) ps.length (bv ps)) := hpr
       have HB67 : Hid (Below w6.heap.size w6 w7) := hb7
       clear hpc hpr hb7 c0 c1 c2 c3 c4 c5)
    | fail)
  have HB7 : Hid (Below w.heap.size w w7) := xtransN HB6.out HB67.out
  have HX7 : Hid (w7.heap[eb]? = some (.cells #[.int .i64 x.st, .int .i64 x.vw, .int .i64 x.K, .int .i64 x.se, .int .i64 x.rq, .slice (some ⟨g, 0, none⟩) x.ops.length cap] 24 (0, 0))) := kept_block HB67.out HX6.out
  have HV7 : Hid (w7.heap[wb]? = some (.cells #[.int .i64 x.st, .int .i64 x.vw, .int .i64 x.K, .int .i64 x.se, .int .i64 x.rq, .slice x.opsA x.ops.length x.opsC] 24 (0, 0))) := kept_block HB67.out HV6.out
  have HN2 : Hid _ := refEncE_any x w7 (HA.out.below HB7.out)
  obtain ⟨c0, c1, c2, c3, c4, c5⟩ := cells_6N HV7.out
  go_upto_region 12 with (first
    | (go_at_call 9; refine Calls.mono HN2.out ?_
       rintro e w8 ⟨qa, qc, qs, qcode, rfl, hqc, hqr, hb8⟩
       have HQ8 : Hid (x.Ok ∧ qs = enL x ∧ qcode = 0 ∨ ¬ x.Ok ∧ qs = [] ∧ qcode = 30) := hqc
       have HQR8 : Hid (w8.ownsRow w7.heap.size 5 1 (.slice qa qs.length qc) qs.length (bv qs)) := hqr
       have HB78 : Hid (Below w7.heap.size w7 w8) := hb8
       clear hqc hqr hb8 c0 c1 c2 c3 c4 c5)
    | fail)
  have HB8 : Hid (Below w.heap.size w w8) := xtransN HB7.out HB78.out
  have HX8 : Hid (w8.heap[eb]? = some (.cells #[.int .i64 x.st, .int .i64 x.vw, .int .i64 x.K, .int .i64 x.se, .int .i64 x.rq, .slice (some ⟨g, 0, none⟩) x.ops.length cap] 24 (0, 0))) := kept_block HB78.out HX7.out
  have HV8 : Hid (w8.heap[wb]? = some (.cells #[.int .i64 x.st, .int .i64 x.vw, .int .i64 x.K, .int .i64 x.se, .int .i64 x.rq, .slice x.opsA x.ops.length x.opsC] 24 (0, 0))) := kept_block HB78.out HV7.out
  have HPR8 : Hid (w8.ownsRow w6.heap.size 5 1 (.slice pa ps.length pc) ps.length (bv ps)) := owns_below HPR7.out HB78.out
  have HB68 : Hid (Below w6.heap.size w6 w8) := xtransN HB67.out HB78.out
  have HRW8 : Hid (w8.ownsRow w3.heap.size 60 5 (.slice (some ⟨g, 0, none⟩) (x.ops.length + 1) cap) (x.ops.length + 1) (opCs (x.ops ++ [mkOp]))) := owns_below HRW6.out HB68.out
  have HAP8 : Hid (x'.At w8) := HAP6.out.below HB68.out
  have HTB8 : Hid (Bys w8 ta xs) := HTB.out.below HB68.out
  have hsame : ps = qs ∧ pcode = qcode ∧ (x.Ok ∧ ps = enL x ∧ qcode = 0 ∨ ¬ x.Ok ∧ ps = [] ∧ qcode = 30) := by
    rcases HP7.out with ⟨h1, h2, h3⟩ | ⟨h1, h2, h3⟩ <;> rcases HQ8.out with ⟨k1, k2, k3⟩ | ⟨k1, k2, k3⟩
    · exact ⟨by rw [h2, k2, EnN.Eq.enc HEQ.out], by rw [h3, k3], .inl ⟨k1, by rw [h2, EnN.Eq.enc HEQ.out], k3⟩⟩
    · exact absurd (EnN.Eq.ok (EnN.Eq.symm HEQ.out) h1) k1
    · exact absurd (EnN.Eq.ok HEQ.out k1) h1
    · exact ⟨by rw [h2, k2], by rw [h3, k3], .inr ⟨k1, h2, k3⟩⟩
  obtain ⟨hs1, hs2, hs3⟩ := hsame
  subst hs1
  subst hs2
  have HCS : Hid (x.Ok ∧ ps = enL x ∧ pcode = 0 ∨ ¬ x.Ok ∧ ps = [] ∧ pcode = 30) := hs3
  clear hs3
  obtain ⟨pa', pc', pe', HPB, hp0, _, hp1, hp2⟩ := bys_of_owns HPR8.out
  cases pe'
  obtain ⟨qa', qc', qe', HQB, hq0, _, hq1, hq2⟩ := bys_of_owns HQR8.out
  cases qe'
  have HPB8 : Hid (Bys w8 pa ps) := HPB
  have HPL : Hid (ps.length ≤ pc ∧ pc ≤ maxLen) := ⟨hp1, hp2⟩
  have HM1 : Hid _ := sameL_yes pa qa pc qc ps w8 HPB HQB (by omega)
  clear HPB HQB hp0 hp1 hp2 hq0 hq1 hq2
  obtain ⟨c0, c1, c2, c3, c4, c5⟩ := cells_6N HX8.out
  obtain ⟨d0, d1, d2, d3, d4, d5⟩ := cells_6N HV8.out
  have HSE : Hid (∀ W, Below w8.heap.size w8 W → Calls Tryz.prog 11 #[.agg #[.int .i64 x.st, .int .i64 x.vw, .int .i64 x.K, .int .i64 x.se, .int .i64 x.rq, .slice (some ⟨g, 0, none⟩) x.ops.length cap], .agg #[.int .i64 x.st, .int .i64 x.vw, .int .i64 x.K, .int .i64 x.se, .int .i64 x.rq, .slice x.opsA x.ops.length x.opsC]] W fun e w' => e = .returned (.bool true) ∧ Below W.heap.size W w') := fun W hb => by
    have h9 := sameE_yes x' x W HEQ.out (HAP8.out.below hb) (HA.out.below (xtransN HB8.out hb))
    have h8 : x'.val = .agg #[.int .i64 x.st, .int .i64 x.vw, .int .i64 x.K, .int .i64 x.se, .int .i64 x.rq, .slice (some ⟨g, 0, none⟩) x.ops.length cap] := by rw [← HXP.out]
    rw [h8] at h9
    exact h9
  go_upto_region 14 with (first
    | (go_at_call 10; refine Calls.mono HM1.out ?_; rintro e w9 ⟨rfl, hb9⟩
       have HB89 : Hid (Below w8.heap.size w8 w9) := hb9
       clear hb9 c0 c1 c2 c3 c4 c5 d0 d1 d2 d3 d4 d5
       obtain ⟨c0, c1, c2, c3, c4, c5⟩ := cells_6N (kept_block HB89.out HX8.out)
       obtain ⟨d0, d1, d2, d3, d4, d5⟩ := cells_6N (kept_block HB89.out HV8.out))
    | (go_at_call 11; refine Calls.mono (HSE.out _ HB89.out) ?_; rintro e w10 ⟨rfl, hb10⟩
       have HB810 : Hid (Below w8.heap.size w8 w10) := xtransN HB89.out hb10
       clear hb10 c0 c1 c2 c3 c4 c5 d0 d1 d2 d3 d4 d5
       obtain ⟨c0, c1, c2, c3, c4, c5⟩ := cells_6N (kept_block HB810.out HX8.out)
       obtain ⟨d0, d1, d2, d3, d4, d5⟩ := cells_6N (kept_block HB810.out HV8.out))
    | (go_at_call 12; refine Calls.mono (marked_any g cap x.ops w3.heap.size _ HCAP.out hLn (owns_below HRW8.out HB810.out)) ?_; rintro e w11 ⟨rfl, hw11⟩; rw [hw11]; clear hw11)
    | fail)
  clear c0 c1 c2 c3 c4 c5 d0 d1 d2 d3 d4 d5
  rcases HCS.out with ⟨hok, rfl, rfl⟩ | ⟨hno, rfl, rfl⟩
  · have HOK : Hid (x.Ok) := hok
    clear hok
    have hzl := enLe HOK.out
    have HZD : Hid _ := dec_any pa pc (enL x) w10 (HPB8.out.below HB810.out) (en_byt x) (by omega) HPL.out.1 HPL.out.2
    go_upto_region 16 with (first
      | (go_at_call 13; refine Calls.mono HZD.out ?_
         rintro e w11 ⟨z, zcode, rfl, hzb, _, hza, hzc⟩
         have hz0 : zcode = 0 ∧ EnN.Eq z x := by
           rcases hzc with ⟨_, h1, h2, h3⟩ | ⟨_, _, _, h3⟩ | ⟨h3, _, _⟩
           · exact ⟨h1, (en_pre (r := []) (s := []) (EnG.of h2) (EnG.of HOK.out) (by rw [← h3])).1⟩
           · exact absurd rfl (h3 x HOK.out)
           · omega
         obtain ⟨hz0, hz1⟩ := hz0
         subst hz0
         have HZE : Hid (EnN.Eq z x) := hz1
         have HB811 : Hid (Below w8.heap.size w8 w11) := xtransN HB810.out hzb
         have HZA : Hid (z.At w11) := hza
         clear hzb hza hzc hz1)
      | fail)
    obtain ⟨zb, hzb⟩ : ∃ zb, w11.heap.size = zb := ⟨_, rfl⟩
    obtain ⟨w12, hw12⟩ : ∃ w12, w11.alloc (.cells #[.int .i64 z.st, .int .i64 z.vw, .int .i64 z.K, .int .i64 z.se, .int .i64 z.rq, .slice z.opsA z.ops.length z.opsC] 24) = w12 := ⟨_, rfl⟩
    have hb12 : Below w11.heap.size w11 w12 := by rw [← hw12]; exact (Below.refl _ _).alloc (Nat.le_refl _) _
    have HZ12 : Hid (w12.heap[zb]? = some (.cells #[.int .i64 z.st, .int .i64 z.vw, .int .i64 z.K, .int .i64 z.se, .int .i64 z.rq, .slice z.opsA z.ops.length z.opsC] 24 (0, 0))) := by show _ = _; rw [← hw12, ← hzb]; exact heap_alloc_new _ _
    have HB812 : Hid (Below w8.heap.size w8 w12) := xtransN HB811.out hb12
    have HSE1 : Hid _ := sameE_yes z x w12 HZE.out (HZA.out.below hb12) (HA.out.below (xtransN HB8.out HB812.out))
    rw [hw12, hzb]
    clear hw12 hb12 hzb hzl
    obtain ⟨c0, c1, c2, c3, c4, c5⟩ := cells_6N HZ12.out
    obtain ⟨d0, d1, d2, d3, d4, d5⟩ := cells_6N (kept_block HB812.out HV8.out)
    go_upto_region 18 with (first
      | (go_at_call 11; refine Calls.mono HSE1.out ?_; rintro e w12b ⟨rfl, hb12b⟩
         have HBT : Hid (Below w8.heap.size w8 w12b) := xtransN HB812.out hb12b
         clear hb12b)
      | fail)
    clear c0 c1 c2 c3 c4 c5 d0 d1 d2 d3 d4 d5
    have HU : Hid _ := dec_any a c xs w12b (HBY.out.below (xtransN HB8.out HBT.out)) HYT.out (by have := HLEN.out; omega) hc hcm
    go_upto_region 19 with (first
      | (go_at_call 13; refine Calls.mono HU.out ?_
         rintro e w13 ⟨u, ucode, rfl, hub, _, hua, huc⟩
         have HB13 : Hid (Below w8.heap.size w8 w13) := xtransN HBT.out hub
         have HUA : Hid (u.At w13) := hua
         have HUC : Hid ((xs.length ≤ 262144 ∧ ucode = 0 ∧ u.Ok ∧ xs = enL u) ∨ (xs.length ≤ 262144 ∧ ucode = 30 ∧ EnN.Eq u zEn ∧ ∀ y : EnN, y.Ok → xs ≠ enL y) ∨ (262144 < xs.length ∧ ucode = 2 ∧ EnN.Eq u zEn)) := huc
         clear hub hua huc)
      | fail)
    obtain ⟨ub, hub⟩ : ∃ ub, w13.heap.size = ub := ⟨_, rfl⟩
    obtain ⟨w14, hw14⟩ : ∃ w14, w13.alloc (.cells #[.int .i64 u.st, .int .i64 u.vw, .int .i64 u.K, .int .i64 u.se, .int .i64 u.rq, .slice u.opsA u.ops.length u.opsC] 24) = w14 := ⟨_, rfl⟩
    have hb14 : Below w13.heap.size w13 w14 := by rw [← hw14]; exact (Below.refl _ _).alloc (Nat.le_refl _) _
    have HU14 : Hid (w14.heap[ub]? = some (.cells #[.int .i64 u.st, .int .i64 u.vw, .int .i64 u.K, .int .i64 u.se, .int .i64 u.rq, .slice u.opsA u.ops.length u.opsC] 24 (0, 0))) := by show _ = _; rw [← hw14, ← hub]; exact heap_alloc_new _ _
    have HB14 : Hid (Below w8.heap.size w8 w14) := xtransN HB13.out hb14
    have HUA14 : Hid (u.At w14) := HUA.out.below hb14
    rw [hw14, hub]
    clear hw14 hb14 hub
    have HVD : Hid _ := refDec_any ta tc xs w14 (HTB8.out.below HB14.out) HYT.out (by have := HLEN.out; omega) HTC.out.1 HTC.out.2
    go_upto_region 20 with (first
      | (go_at_call 14; refine Calls.mono HVD.out ?_
         rintro e w15 ⟨v, vcode, rfl, hvb, _, hva, hvc⟩
         have HB1415 : Hid (Below w14.heap.size w14 w15) := hvb
         have HVA : Hid (v.At w15) := hva
         have HONE : Hid (ucode = vcode ∧ EnN.Eq u v) := DecE.one HUC.out hvc
         clear hvb hva hvc)
      | fail)
    obtain ⟨vb, hvb⟩ : ∃ vb, w15.heap.size = vb := ⟨_, rfl⟩
    obtain ⟨w16, hw16⟩ : ∃ w16, w15.alloc (.cells #[.int .i64 v.st, .int .i64 v.vw, .int .i64 v.K, .int .i64 v.se, .int .i64 v.rq, .slice v.opsA v.ops.length v.opsC] 24) = w16 := ⟨_, rfl⟩
    have hb16 : Below w15.heap.size w15 w16 := by rw [← hw16]; exact (Below.refl _ _).alloc (Nat.le_refl _) _
    have HV16 : Hid (w16.heap[vb]? = some (.cells #[.int .i64 v.st, .int .i64 v.vw, .int .i64 v.K, .int .i64 v.se, .int .i64 v.rq, .slice v.opsA v.ops.length v.opsC] 24 (0, 0))) := by show _ = _; rw [← hw16, ← hvb]; exact heap_alloc_new _ _
    have HB1416 : Hid (Below w14.heap.size w14 w16) := xtransN HB1415.out hb16
    have HB16 : Hid (Below w8.heap.size w8 w16) := xtransN HB14.out HB1416.out
    have HU16 : Hid (w16.heap[ub]? = some (.cells #[.int .i64 u.st, .int .i64 u.vw, .int .i64 u.K, .int .i64 u.se, .int .i64 u.rq, .slice u.opsA u.ops.length u.opsC] 24 (0, 0))) := kept_block HB1416.out HU14.out
    have HSE2 : Hid _ := sameE_yes u v w16 HONE.out.2 (HUA14.out.below HB1416.out) (HVA.out.below hb16)
    rw [hw16, hvb]
    clear hw16 hb16 hvb
    have heqc := HONE.out.1
    subst heqc
    obtain ⟨c0, c1, c2, c3, c4, c5⟩ := cells_6N HU16.out
    obtain ⟨d0, d1, d2, d3, d4, d5⟩ := cells_6N HV16.out
    go_wp2_with (first
      | (go_at_call 11; refine Calls.mono HSE2.out ?_; rintro e w17 ⟨rfl, hb17⟩
         have HB17 : Hid (Below w8.heap.size w8 w17) := xtransN HB16.out hb17
         clear hb17)
      | (go_at_call 10; refine Calls.mono (sameL_yes a ta c tc xs _ (HBY.out.below (xtransN HB8.out HB17.out)) (HTB8.out.below HB17.out) (by have := HLEN.out; unfold maxLen; omega)) ?_; rintro e w18 ⟨rfl, hb18⟩
         have HB18 : Hid (Below w8.heap.size w8 w18) := xtransN HB17.out hb18
         clear hb18)
      | fail)
    go_ret
    exact ⟨rfl, xtransN HB8.out HB18.out⟩
  · have HBT : Hid (Below w8.heap.size w8 w10) := HB810.out
    go_upto_region 18 with fail
    have HU : Hid _ := dec_any a c xs w10 (HBY.out.below (xtransN HB8.out HBT.out)) HYT.out (by have := HLEN.out; omega) hc hcm
    go_upto_region 19 with (first
      | (go_at_call 13; refine Calls.mono HU.out ?_
         rintro e w13 ⟨u, ucode, rfl, hub, _, hua, huc⟩
         have HB13 : Hid (Below w8.heap.size w8 w13) := xtransN HBT.out hub
         have HUA : Hid (u.At w13) := hua
         have HUC : Hid ((xs.length ≤ 262144 ∧ ucode = 0 ∧ u.Ok ∧ xs = enL u) ∨ (xs.length ≤ 262144 ∧ ucode = 30 ∧ EnN.Eq u zEn ∧ ∀ y : EnN, y.Ok → xs ≠ enL y) ∨ (262144 < xs.length ∧ ucode = 2 ∧ EnN.Eq u zEn)) := huc
         clear hub hua huc)
      | fail)
    obtain ⟨ub, hub⟩ : ∃ ub, w13.heap.size = ub := ⟨_, rfl⟩
    obtain ⟨w14, hw14⟩ : ∃ w14, w13.alloc (.cells #[.int .i64 u.st, .int .i64 u.vw, .int .i64 u.K, .int .i64 u.se, .int .i64 u.rq, .slice u.opsA u.ops.length u.opsC] 24) = w14 := ⟨_, rfl⟩
    have hb14 : Below w13.heap.size w13 w14 := by rw [← hw14]; exact (Below.refl _ _).alloc (Nat.le_refl _) _
    have HU14 : Hid (w14.heap[ub]? = some (.cells #[.int .i64 u.st, .int .i64 u.vw, .int .i64 u.K, .int .i64 u.se, .int .i64 u.rq, .slice u.opsA u.ops.length u.opsC] 24 (0, 0))) := by show _ = _; rw [← hw14, ← hub]; exact heap_alloc_new _ _
    have HB14 : Hid (Below w8.heap.size w8 w14) := xtransN HB13.out hb14
    have HUA14 : Hid (u.At w14) := HUA.out.below hb14
    rw [hw14, hub]
    clear hw14 hb14 hub
    have HVD : Hid _ := refDec_any ta tc xs w14 (HTB8.out.below HB14.out) HYT.out (by have := HLEN.out; omega) HTC.out.1 HTC.out.2
    go_upto_region 20 with (first
      | (go_at_call 14; refine Calls.mono HVD.out ?_
         rintro e w15 ⟨v, vcode, rfl, hvb, _, hva, hvc⟩
         have HB1415 : Hid (Below w14.heap.size w14 w15) := hvb
         have HVA : Hid (v.At w15) := hva
         have HONE : Hid (ucode = vcode ∧ EnN.Eq u v) := DecE.one HUC.out hvc
         clear hvb hva hvc)
      | fail)
    obtain ⟨vb, hvb⟩ : ∃ vb, w15.heap.size = vb := ⟨_, rfl⟩
    obtain ⟨w16, hw16⟩ : ∃ w16, w15.alloc (.cells #[.int .i64 v.st, .int .i64 v.vw, .int .i64 v.K, .int .i64 v.se, .int .i64 v.rq, .slice v.opsA v.ops.length v.opsC] 24) = w16 := ⟨_, rfl⟩
    have hb16 : Below w15.heap.size w15 w16 := by rw [← hw16]; exact (Below.refl _ _).alloc (Nat.le_refl _) _
    have HV16 : Hid (w16.heap[vb]? = some (.cells #[.int .i64 v.st, .int .i64 v.vw, .int .i64 v.K, .int .i64 v.se, .int .i64 v.rq, .slice v.opsA v.ops.length v.opsC] 24 (0, 0))) := by show _ = _; rw [← hw16, ← hvb]; exact heap_alloc_new _ _
    have HB1416 : Hid (Below w14.heap.size w14 w16) := xtransN HB1415.out hb16
    have HB16 : Hid (Below w8.heap.size w8 w16) := xtransN HB14.out HB1416.out
    have HU16 : Hid (w16.heap[ub]? = some (.cells #[.int .i64 u.st, .int .i64 u.vw, .int .i64 u.K, .int .i64 u.se, .int .i64 u.rq, .slice u.opsA u.ops.length u.opsC] 24 (0, 0))) := kept_block HB1416.out HU14.out
    have HSE2 : Hid _ := sameE_yes u v w16 HONE.out.2 (HUA14.out.below HB1416.out) (HVA.out.below hb16)
    rw [hw16, hvb]
    clear hw16 hb16 hvb
    have heqc := HONE.out.1
    subst heqc
    obtain ⟨c0, c1, c2, c3, c4, c5⟩ := cells_6N HU16.out
    obtain ⟨d0, d1, d2, d3, d4, d5⟩ := cells_6N HV16.out
    go_wp2_with (first
      | (go_at_call 11; refine Calls.mono HSE2.out ?_; rintro e w17 ⟨rfl, hb17⟩
         have HB17 : Hid (Below w8.heap.size w8 w17) := xtransN HB16.out hb17
         clear hb17)
      | (go_at_call 10; refine Calls.mono (sameL_yes a ta c tc xs _ (HBY.out.below (xtransN HB8.out HB17.out)) (HTB8.out.below HB17.out) (by have := HLEN.out; unfold maxLen; omega)) ?_; rintro e w18 ⟨rfl, hb18⟩
         have HB18 : Hid (Below w8.heap.size w8 w18) := xtransN HB17.out hb18
         clear hb18)
      | fail)
    go_ret
    exact ⟨rfl, xtransN HB8.out HB18.out⟩
end Go.Proofs.YtdjfeomdiljaeaaGreatDoor
