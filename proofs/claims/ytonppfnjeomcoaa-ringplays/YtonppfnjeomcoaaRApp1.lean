/-
  append1, at rings without room.
-/
import Derived.Test.YtonppfnjeomcoaaRNone
namespace Go.Proofs.Ytonppfnjeomcoaa
open Go.RowKit Classical
set_option linter.unusedVariables false
set_option linter.unusedSimpArgs false

abbrev opK (k : Int) : OpT := ⟨k, ⟨#[]⟩, ⟨#[]⟩, 0, 0⟩
theorem five_cells {w : World} {b o : Nat} {cs : Array Value} {t : TypeId} {fr : Nat × Nat} (h : w.heap[b]? = some (.cells cs t fr)) (ho : o + 5 ≤ cs.size) : ∃ y0 y1 y2 y3 y4, w.cell? ⟨b, o, none⟩ = some y0 ∧ w.cell? ⟨b, o + 1, none⟩ = some y1 ∧ w.cell? ⟨b, o + 2, none⟩ = some y2 ∧ w.cell? ⟨b, o + 3, none⟩ = some y3 ∧ w.cell? ⟨b, o + 4, none⟩ = some y4 :=
  ⟨cs[o], cs[o + 1], cs[o + 2], cs[o + 3], cs[o + 4], by rw [cell_blk h]; exact Array.getElem?_eq_getElem _, by rw [cell_blk h]; exact Array.getElem?_eq_getElem _, by rw [cell_blk h]; exact Array.getElem?_eq_getElem _, by rw [cell_blk h]; exact Array.getElem?_eq_getElem _, by rw [cell_blk h]; exact Array.getElem?_eq_getElem _⟩
theorem zeroR_may_ne (e : EnT) : zeroR.may e ≠ 0 := by
  rw [zeroR_may]
  split
  · decide
  · split
    · decide
    · decide
set_option maxHeartbeats 3200000 in
set_option maxRecDepth 100000 in
theorem append1_zero (p : Option Addr) (bx : Nat) (e : EnT) (a : Option Addr) (c n : Nat) (w : World) (h : RP w p zeroR) (hx : XZ w bx) (ho : Os w a e.ops) (hn : e.ops.length = n) (hl : (n + 2) * 56 ≤ 140737488355328) :
    Calls Try.prog 42 #[.pointer p, .pointer (some ⟨bx, 0, none⟩), e.val (.slice a n c)] w fun e' w' => e' = .returned (.bool true) ∧ Below w.heap.size w w' := by
  obtain ⟨i0, hi, hz0, hz1, hz2⟩ := info_parts Try.infoOp
  obtain ⟨s, v, k, se, rq, ops⟩ := e
  simp only at ho hn
  have HRP : Hid (RP w p zeroR) := h
  have HXZ : Hid (XZ w bx) := hx
  have HO : Hid (Os w a ops) := ho
  have HN : Hid (ops.length = n) := hn
  have HOP : Hid (∀ w', Below w.heap.size w w' → _) := fun w' hb => ops_any a c n ops w' (ho.below hb) hn (by omega)
  obtain ⟨C, hC⟩ : ∃ C, zeroR.may ⟨s, v, k, se, rq, ops⟩ = C := ⟨_, rfl⟩
  have HAP : Hid (∀ w' x, Below w.heap.size w w' → _) := fun w' x hb => append_no p zeroR ⟨s, v, k, se, rq, ops⟩ x w' (h.below hb) (zeroR_may_ne _)
  have HXA : Hid (∀ w' x, Below w.heap.size w w' → _) := fun w' x hb => xAppend bx ⟨s, v, k, se, rq, ops⟩ x w' (hx.below hb)
  rw [hC] at HAP HXA
  clear h hx ho hn hC
  go_enter Try.func42, Try.ntmps42
  go_wp2_with fail
  refine Calls.mono (HOP.out _ ((Below.refl _ _).alloc (Nat.le_refl _) _)) ?_
  rintro e' w1 ⟨v1, rfl, hr1, hb1⟩
  have HA1 : Hid (w1.heap[w.heap.size]? = some (.cells #[.int .i64 s, .int .i64 v, .int .i64 k, .int .i64 se, .int .i64 rq, .slice a n c] 33 (0, 0))) := kept_block hb1 (heap_alloc_new _ _)
  have HB1 : Hid (Below w.heap.size w w1) := trans2 ((Below.refl _ _).alloc (Nat.le_refl _) _) hb1
  obtain ⟨ra, rc, rfl, -, -⟩ := owns_form hr1
  have HR1 : Hid (w1.ownsRow (w.heap.size + 1) 44 5 (.slice ra n rc) n (opCs ops)) := by
    have := hr1
    rw [World.size_alloc] at this
    exact this
  have HR0 : Hid ((w1.alloc (.cells #[.int .i64 77, .string ⟨#[]⟩, .string ⟨#[]⟩, .int .i64 0, .int .i64 0, .int .i64 78, .string ⟨#[]⟩, .string ⟨#[]⟩, .int .i64 0, .int .i64 0] 44)).ownsRow (w.heap.size + 1) 44 5 (.slice ra n rc) n (opCs ops)) := HR1.out.alloc _
  have HC0 : Hid (∀ j u, [Value.int .i64 77, .string ⟨#[]⟩, .string ⟨#[]⟩, .int .i64 0, .int .i64 0, .int .i64 78, .string ⟨#[]⟩, .string ⟨#[]⟩, .int .i64 0, .int .i64 0][j]? = some u → (w1.alloc (.cells #[.int .i64 77, .string ⟨#[]⟩, .string ⟨#[]⟩, .int .i64 0, .int .i64 0, .int .i64 78, .string ⟨#[]⟩, .string ⟨#[]⟩, .int .i64 0, .int .i64 0] 44)).cell? ((⟨w1.heap.size, 0, none⟩ : Addr).add j) = some u) := cells_new w1 [.int .i64 77, .string ⟨#[]⟩, .string ⟨#[]⟩, .int .i64 0, .int .i64 0, .int .i64 78, .string ⟨#[]⟩, .string ⟨#[]⟩, .int .i64 0, .int .i64 0] 44
  have H1C : Hid (∀ u ∈ [Value.int .i64 77, .string ⟨#[]⟩, .string ⟨#[]⟩, .int .i64 0, .int .i64 0, .int .i64 78, .string ⟨#[]⟩, .string ⟨#[]⟩, .int .i64 0, .int .i64 0], u.oneCell' = true) := fun u hu => by
    simp only [List.mem_cons, List.not_mem_nil, or_false] at hu
    rcases hu with rfl | rfl | rfl | rfl | rfl | rfl | rfl | rfl | rfl | rfl <;> rfl
  have HMX : Hid (n + 2 ≤ maxLen) := by show n + 2 ≤ maxLen; unfold maxLen; omega
  have HWS : Hid (w.heap.size + 1 ≤ (w1.alloc (.cells #[.int .i64 77, .string ⟨#[]⟩, .string ⟨#[]⟩, .int .i64 0, .int .i64 0, .int .i64 78, .string ⟨#[]⟩, .string ⟨#[]⟩, .int .i64 0, .int .i64 0] 44)).heap.size) := by show _ ≤ _; rw [World.size_alloc]; have := lt_of_blk HA1.out; omega
  clear hr1 hb1 HOP
  go_wp2_with (at_builtin; refine wpList_append_own_at _ rfl _ _ 31 rfl (w.heap.size + 1) 44 i0 (.agg #[.int .i64 0, .string ⟨#[]⟩, .string ⟨#[]⟩, .int .i64 0, .int .i64 0]) 5 56 Try.underlying31 hi hz0 hz1 hz2 rfl (by decide) (.slice ra n rc) n (opCs ops) rfl HR0.out ⟨w1.heap.size, 0, none⟩ 2 2 [.int .i64 77, .string ⟨#[]⟩, .string ⟨#[]⟩, .int .i64 0, .int .i64 0, .int .i64 78, .string ⟨#[]⟩, .string ⟨#[]⟩, .int .i64 0, .int .i64 0] rfl rfl HC0.out H1C.out HMX.out hl HWS.out ?_)
  intro v' w2 hown' hgrow _ hat
  obtain ⟨ga, gc, rfl, -, hga⟩ := owns_form hown'
  obtain ⟨g, rfl⟩ : ∃ g, ga = some ⟨g, 0, none⟩ := by
    cases ga with
    | none => rcases hown'.2 with ⟨_, h0⟩ | ⟨g', cap, cur, hv, _⟩
              · omega
              · cases hv
    | some ad => obtain ⟨g, rfl⟩ := hga ad rfl; exact ⟨g, rfl⟩
  have hgc : n + 2 ≤ gc := by
    rcases hown'.2 with ⟨h0, _⟩ | ⟨g', cap, cur, hv, _, _, hnn, _⟩
    · cases h0
    · cases hv; exact hnn
  have hgm : gc ≤ maxLen := by
    rcases hown'.2 with ⟨h0, _⟩ | ⟨g', cap, cur, hv, _, _, _, hmm, _⟩
    · cases h0
    · cases hv; exact hmm
  have HR2 : Hid (w2.ownsRow (w.heap.size + 1) 44 5 (.slice (some ⟨g, 0, none⟩) (n + 2) gc) (n + 2) (opCs (ops ++ [opK 77, opK 78]))) := by
    have e1 : opCs (ops ++ [opK 77, opK 78]) = opCs ops ++ [.int .i64 77, .string ⟨#[]⟩, .string ⟨#[]⟩, .int .i64 0, .int .i64 0, .int .i64 78, .string ⟨#[]⟩, .string ⟨#[]⟩, .int .i64 0, .int .i64 0] := by
      unfold opCs
      rw [rowCs_append]
      simp [rowCs]
    rw [e1]
    exact hown'
  have hBA : w.heap.size ≤ (w1.alloc (.cells #[.int .i64 77, .string ⟨#[]⟩, .string ⟨#[]⟩, .int .i64 0, .int .i64 0, .int .i64 78, .string ⟨#[]⟩, .string ⟨#[]⟩, .int .i64 0, .int .i64 0] 44)).heap.size := by have := HWS.out; omega
  have HB2 : Hid (Below w.heap.size w w2) := (HB1.out.alloc HB1.out.size _).grown hgrow hBA (fun j hj => by have := (HR1.out.lt j hj).1; omega)
  have HA2 : Hid (w2.heap[w.heap.size]? = some (.cells #[.int .i64 s, .int .i64 v, .int .i64 k, .int .i64 se, .int .i64 rq, .slice a n c] 33 (0, 0))) := by
    show _ = _
    rw [hgrow.block _ (Nat.lt_of_lt_of_le (Nat.lt_succ_self _) HWS.out) (fun e => by have := (HR1.out.lt _ e.symm).1; omega)]
    exact new_old HA1.out _
  obtain ⟨q0, q1, q2, q3, q4, q5⟩ := cells_6 HA2.out
  unfold maxLen at hgm
  have hgl : g < w2.heap.size := (HR2.out.lt g rfl).2
  have hAl : w.heap.size < w2.heap.size := lt_of_blk HA2.out
  have hA0 : ∀ (ob : Obj) (o : Nat), (w2.alloc ob).cell? ⟨w.heap.size, o, none⟩ = w2.cell? ⟨w.heap.size, o, none⟩ := fun ob o => ((Below.refl _ w2).alloc (Nat.le_refl _) ob).cell (p := ⟨w.heap.size, o, none⟩) hAl
  have hgA : w.heap.size + 1 ≤ g := (HR2.out.lt g rfl).1
  clear hown' hgrow hat hga HR0 HC0 H1C HMX HWS HR1 HA1 hBA HB1 hi hz0 hz1 hz2
  go_wp2_with fail
  have hb2a : Below w2.heap.size w2 (w2.alloc (.cells #[.int .i64 s, .int .i64 v, .int .i64 k, .int .i64 se, .int .i64 rq, .slice (some ⟨g, 0, none⟩) n gc] 33)) := (Below.refl _ _).alloc (Nat.le_refl _) _
  refine Calls.mono (HAP.out _ (.slice (some ⟨g, 0, none⟩) n gc) (trans2 HB2.out hb2a)) ?_
  rintro e' w3 ⟨rfl, hb3⟩
  have HB23 : Hid (Below w2.heap.size w2 w3) := trans2 hb2a hb3
  have HB3 : Hid (Below w.heap.size w w3) := trans2 HB2.out HB23.out
  have HA3 : Hid (w3.heap[w.heap.size]? = some (.cells #[.int .i64 s, .int .i64 v, .int .i64 k, .int .i64 se, .int .i64 rq, .slice a n c] 33 (0, 0))) := kept_block HB23.out HA2.out
  have HR3 : Hid (w3.ownsRow (w.heap.size + 1) 44 5 (.slice (some ⟨g, 0, none⟩) (n + 2) gc) (n + 2) (opCs (ops ++ [opK 77, opK 78]))) := owns_below HR2.out HB23.out
  clear hb2a hb3 HB23 q0 q1 q2 q3 q4 q5 hA0 HA2 HR2 HB2
  obtain ⟨q0, q1, q2, q3, q4, q5⟩ := cells_6 HA3.out
  go_wp2_with fail
  refine Calls.mono (HXA.out _ (.slice a n c) HB3.out) ?_
  rintro e' w4 ⟨rfl, hb4⟩
  have HB4 : Hid (Below w.heap.size w w4) := trans2 HB3.out hb4
  have HA4 : Hid (w4.heap[w.heap.size]? = some (.cells #[.int .i64 s, .int .i64 v, .int .i64 k, .int .i64 se, .int .i64 rq, .slice a n c] 33 (0, 0))) := kept_block hb4 HA3.out
  have HR4 : Hid (w4.ownsRow (w.heap.size + 1) 44 5 (.slice (some ⟨g, 0, none⟩) (n + 2) gc) (n + 2) (opCs (ops ++ [opK 77, opK 78]))) := owns_below HR3.out hb4
  clear hb4 q0 q1 q2 q3 q4 q5 HA3 HR3 HB3 HXA HAP
  obtain ⟨-, -, -, -, -, q5⟩ := cells_6 HA4.out
  have hrow : w4.ownsRow (w.heap.size + 1) 44 5 (.slice (some ⟨g, 0, none⟩) (n + 2) gc) (n + 2) (rowCs OpT.cells (ops ++ [opK 77, opK 78])) := HR4.out
  have hOs4 : Os w4 (some ⟨g, 0, none⟩) ops := by
    have h9 := ls_of_row op_len hrow (by decide) (by rw [List.length_append, HN.out]; rfl)
    rcases h9 with h9 | ⟨b', o', hab, hlt, hc⟩
    · simp at h9
    · refine .inr ⟨b', o', hab, hlt, fun i t hi j x hx => hc i t ?_ j x hx⟩
      rw [List.getElem?_append_left (List.getElem?_eq_some_iff.1 hi).1]
      exact hi
  have k1 : w4.cell? ⟨g, n * 5, none⟩ = some (.int .i64 77) := by
    have h8 := rowCs_at op_len (ops ++ [opK 77, opK 78]) n 0 (opK 77) (.int .i64 77) (by rw [List.getElem?_append_right (by rw [HN.out]; exact Nat.le_refl _), HN.out, Nat.sub_self]; rfl) rfl []
    rw [List.append_nil, Nat.add_zero] at h8
    exact cell_n hrow h8
  have k2 : w4.cell? ⟨g, (n + 1) * 5, none⟩ = some (.int .i64 78) := by
    have h8 := rowCs_at op_len (ops ++ [opK 77, opK 78]) (n + 1) 0 (opK 78) (.int .i64 78) (by rw [List.getElem?_append_right (by rw [HN.out]; exact Nat.le_succ _), HN.out, show n + 1 - n = 1 by omega]; rfl) rfl []
    rw [List.append_nil, Nat.add_zero] at h8
    exact cell_n hrow h8
  have HOS4 : Hid (Os w4 (some ⟨g, 0, none⟩) ops) := hOs4
  have HOE4 : Hid (Os w4 a ops) := HO.out.below HB4.out
  have HSO : Hid (∀ w', Below w4.heap.size w4 w' → _) := fun w' hb => sameOps_any (some ⟨g, 0, none⟩) a gc c n n ops ops w' (HOS4.out.below hb) (HOE4.out.below hb) HN.out HN.out (by unfold maxLen; omega)
  rw [decide_eq_true rfl] at HSO
  clear hrow hOs4
  have i1 : (n : Int) < (n : Int) + 2 := by omega
  have i2 : (n : Int) + 1 < (n : Int) + 2 := by omega
  have i6 : (0 : Int) ≤ (n : Int) + 1 := by omega
  have i3 : (n : Int) ≤ (gc : Int) := by omega
  have i4 : IntKind.i64.wrap ((n : Int) + 1) = (n : Int) + 1 := by rw [IntKind.wrap_i64]; omega
  have i5 : ((n : Int) + 1).toNat = n + 1 := by omega
  have hAl4 : w.heap.size < w4.heap.size := lt_of_blk HA4.out
  have hgl4 : g < w4.heap.size := (HR4.out.lt g rfl).2
  go_wp2_with fail
  go_region_held3 (fun w' => w'.cell? ⟨w.heap.size, 5, none⟩ = some (.slice a n c) ∧ w'.cell? ⟨g, n * 5, none⟩ = some (.int .i64 77) ∧ w'.cell? ⟨g, (n + 1) * 5, none⟩ = some (.int .i64 78)) (first | (simp only [World.cell?_drew, World.cell?_drewN, q5, k1, k2, and_self]; done) | fail)
    (first
    | (go_at_call 31; refine (HSO.out _ (by first | exact below_drewN (Below.refl _ _) _ | exact below_drew (Below.refl _ _))).mono ?_
       rintro e' w5 ⟨rfl, hb5⟩
       have HB5 : Hid (Below w4.heap.size w4 w5) := trans2 (below_drew (Below.refl _ _)) hb5
       have hq5 : ∀ k o v, k < w4.heap.size → w4.cell? ⟨k, o, none⟩ = some v → w5.cell? ⟨k, o, none⟩ = some v := fun k o v hk hv => by rw [hb5.cell (p := ⟨k, o, none⟩) hk]; exact hv
       have q5 := hq5 _ _ _ hAl4 q5
       have k1 := hq5 _ _ _ hgl4 k1
       have k2 := hq5 _ _ _ hgl4 k2
       clear hb5 hq5))
  have HA5 : Hid (w5.heap[w.heap.size]? = some (.cells #[.int .i64 s, .int .i64 v, .int .i64 k, .int .i64 se, .int .i64 rq, .slice a n c] 33 (0, 0))) := kept_block HB5.out HA4.out
  have HG5 : Hid (∃ cur : Array Value, w5.heap[g]? = some (.cells cur 44 (0, 0)) ∧ (n + 2) * 5 ≤ cur.size) := by
    have h9 := owns_below HR4.out HB5.out
    rcases h9.2 with ⟨h0, _⟩ | ⟨g', cap', cur, hv, _, hg, _, _, hsz, ht⟩
    · cases h0
    · cases hv
      refine ⟨cur, hg, ?_⟩
      have h10 := h9.1
      have h11 := congrArg List.length ht
      rw [List.length_take, Array.length_toList] at h11
      omega
  have HBW : Hid (Below w.heap.size w w5) := trans2 HB4.out HB5.out
  clear i1 i2 i3 i4 i5 i6 q5 k1 k2 hgc hgm
  go_wp2_with fail
  go_loopw [11] (fun i wr => ∃ q : Nat, i = .int .i64 q ∧ q ≤ n ∧ Hid (wr.heap[w.heap.size]? = some (.cells #[.int .i64 s, .int .i64 v, .int .i64 k, .int .i64 se, .int .i64 rq, .slice a n c] 33 (0, 0))) ∧ Hid (∃ cur : Array Value, wr.heap[g]? = some (.cells cur 44 (0, 0)) ∧ (n + 2) * 5 ≤ cur.size) ∧ Hid (Below w.heap.size w wr)) (fun i _ => n - (intOf i).toNat)
  case atStart => exact ⟨0, rfl, Nat.zero_le _, HA5, HG5, HBW⟩
  case round =>
    obtain ⟨q, rfl, hq, HA, HG, HB⟩ := hrel
    obtain ⟨-, -, -, -, -, q5⟩ := cells_6 HA.out
    by_cases hlt : q < n
    · have hlt' : (q : Int) < (n : Int) := by omega
      have hlt2 : (q : Int) < (n : Int) + 2 := by omega
      obtain ⟨cur, hg, hsz⟩ := HG.out
      obtain ⟨y0, y1, y2, y3, y4, p0, p1, p2, p3, p4⟩ := five_cells hg (o := q * 5) (by omega)
      have fg := free_blk hg
      have HG' : Hid (wr.heap[g]? = some (.cells cur 44 (0, 0)) ∧ (n + 2) * 5 ≤ cur.size) := ⟨hg, hsz⟩
      clear hg hsz
      go_wp2_with fail
      go_roundw
      case rel =>
        refine ⟨q + 1, by go_num, by omega, ?_, ?_, ?_⟩
        · exact other_blk (other_blk (other_blk (other_blk (other_blk HA.out (by omega)) (by omega)) (by omega)) (by omega)) (by omega)
        · exact ⟨_, heap_setCell_same _ _ _ _ _ _ (heap_setCell_same _ _ _ _ _ _ (heap_setCell_same _ _ _ _ _ _ (heap_setCell_same _ _ _ _ _ _ (heap_setCell_same _ _ _ _ _ _ HG'.out.1)))), by simpa using HG'.out.2⟩
        · exact ((((HB.out.setCell (by show _ ≤ g; omega) _).setCell (by show _ ≤ g; omega) _).setCell (by show _ ≤ g; omega) _).setCell (by show _ ≤ g; omega) _).setCell (by show _ ≤ g; omega) _
      case measure => simp [intOf]; omega
    · obtain rfl : q = n := by omega
      have hge : ¬ (q : Int) < (q : Int) := by omega
      go_wp2_with fail
      go_ret
      exact ⟨by simp, HB.out⟩
end Go.Proofs.Ytonppfnjeomcoaa
