/-
  append1, at any ring.
-/
import Derived.Test.YtonppfnjeomcoaaRPlayG
import Derived.Test.YtonppfnjeomcoaaRAppendD
namespace Go.Proofs.Ytonppfnjeomcoaa
open Go.RowKit Classical
set_option linter.unusedVariables false
set_option linter.unusedSimpArgs false

theorem RingD.ref {w0 w w' : World} {b bx : Nat} {R R0 : RingT} {F : Nat} {O : Int} {H : List EnT} {P : List PEnt} {la : Option Addr} {lc : Nat} {D : Nat → Prop} (hd : RingD w b R0 D) (hr : RingAt w b R0) (h : RefAt w0 w bx R F O H P la lc) (hk : Kp (XS bx la) w w') : RingD w' b R0 D := fun k e hk' => by
  obtain ⟨x, h1, h2, h3⟩ := hd k e hk'
  obtain ⟨cs, hx, _⟩ := hr.box
  have hb : ¬ XS bx la b := fun e => by
    rcases h.types hx e with h1 | ⟨h1, _⟩
    · exact absurd h1 (by decide)
    · exact absurd h1 (by decide)
  refine ⟨x, owns_kp h1 hk (fun y hy hs => ?_), h2, fun j v hj => ?_⟩
  · obtain ⟨cur, hcu⟩ := owns_kind h1 hy
    rcases h.types hcu hs with h1 | ⟨h1, _⟩
    · exact absurd h1 (by decide)
    · exact absurd h1 (by decide)
  · have h9 := h3 j v hj
    rw [cell_blk (hk.cells _ _ _ _ hx hb)]
    rw [cell_blk hx] at h9
    exact h9
set_option maxHeartbeats 3200000 in
set_option maxRecDepth 100000 in
theorem append1_no {w0 : World} (b bx : Nat) (e : EnT) (a : Option Addr) (c n : Nat) (w : World) {R : RingT} {F : Nat} {O : Int} {H : List EnT} {P : List PEnt} {la : Option Addr} {lc : Nat} (h : RingAt w b R) (hx : RefAt w0 w bx R F O H P la lc) (ho : Os w a e.ops) (hn : e.ops.length = n) (hl : (n + 2) * 56 ≤ 140737488355328) (hm : R.may e ≠ 0) :
    Calls Try.prog 42 #[.pointer (some ⟨b, 0, none⟩), .pointer (some ⟨bx, 0, none⟩), e.val (.slice a n c)] w fun e' w' => e' = .returned (.bool true) ∧ Below w.heap.size w w' := by
  obtain ⟨i0, hi, hz0, hz1, hz2⟩ := info_parts Try.infoOp
  obtain ⟨s, v, k, se, rq, ops⟩ := e
  simp only at ho hn
  have HO : Hid (Os w a ops) := ho
  have HN : Hid (ops.length = n) := hn
  have HOP : Hid (∀ w', Below w.heap.size w w' → _) := fun w' hb => ops_any a c n ops w' (ho.below hb) hn (by omega)
  obtain ⟨C, hC⟩ : ∃ C, R.may ⟨s, v, k, se, rq, ops⟩ = C := ⟨_, rfl⟩
  have HAP : Hid (∀ w' x, Below w.heap.size w w' → _) := fun w' x hb => append_no (some ⟨b, 0, none⟩) R ⟨s, v, k, se, rq, ops⟩ x w' (.inr ⟨b, rfl, h.below hb⟩) hm
  have HXA : Hid (∀ w' x, Below w.heap.size w w' → _) := fun w' x hb => rApp_no w' bx ⟨s, v, k, se, rq, ops⟩ x (hx.below hb) hm
  rw [hC] at HAP HXA
  clear h hx ho hn hC hm
  go_enter Try.func42, Try.ntmps42
  go_wp2_with fail
  refine Calls.mono (HOP.out _ ((Below.refl _ _).alloc (Nat.le_refl _) _)) ?_
  rintro e' w1 ⟨v1, rfl, hr1, hb1⟩
  have HA1 : Hid (w1.heap[w.heap.size]? = some (.cells #[.int .i64 s, .int .i64 v, .int .i64 k, .int .i64 se, .int .i64 rq, .slice a n c] 33 (0, 0))) := kept_block hb1 (heap_alloc_new _ _)
  have HB1 : Hid (Below w.heap.size w w1) := trans2 ((Below.refl _ _).alloc (Nat.le_refl _) _) hb1
  obtain ⟨ra, rc, rfl, -, -⟩ := owns_form hr1
  have HR1 : Hid (w1.ownsRow (w.heap.size + 1) 44 5 (.slice ra n rc) n (opCs ops)) := by
    have := hr1
    rw [World.size_alloc] at this
    exact this
  have HR0 : Hid ((w1.alloc (.cells #[.int .i64 77, .string ⟨#[]⟩, .string ⟨#[]⟩, .int .i64 0, .int .i64 0, .int .i64 78, .string ⟨#[]⟩, .string ⟨#[]⟩, .int .i64 0, .int .i64 0] 44)).ownsRow (w.heap.size + 1) 44 5 (.slice ra n rc) n (opCs ops)) := HR1.out.alloc _
  have HC0 : Hid (∀ j u, [Value.int .i64 77, .string ⟨#[]⟩, .string ⟨#[]⟩, .int .i64 0, .int .i64 0, .int .i64 78, .string ⟨#[]⟩, .string ⟨#[]⟩, .int .i64 0, .int .i64 0][j]? = some u → (w1.alloc (.cells #[.int .i64 77, .string ⟨#[]⟩, .string ⟨#[]⟩, .int .i64 0, .int .i64 0, .int .i64 78, .string ⟨#[]⟩, .string ⟨#[]⟩, .int .i64 0, .int .i64 0] 44)).cell? ((⟨w1.heap.size, 0, none⟩ : Addr).add j) = some u) := cells_new w1 [.int .i64 77, .string ⟨#[]⟩, .string ⟨#[]⟩, .int .i64 0, .int .i64 0, .int .i64 78, .string ⟨#[]⟩, .string ⟨#[]⟩, .int .i64 0, .int .i64 0] 44
  have H1C : Hid (∀ u ∈ [Value.int .i64 77, .string ⟨#[]⟩, .string ⟨#[]⟩, .int .i64 0, .int .i64 0, .int .i64 78, .string ⟨#[]⟩, .string ⟨#[]⟩, .int .i64 0, .int .i64 0], u.oneCell' = true) := fun u hu => by
    simp only [List.mem_cons, List.not_mem_nil, or_false] at hu
    rcases hu with rfl | rfl | rfl | rfl | rfl | rfl | rfl | rfl | rfl | rfl <;> rfl
  have HMX : Hid (n + 2 ≤ maxLen) := by show n + 2 ≤ maxLen; unfold maxLen; omega
  have HWS : Hid (w.heap.size + 1 ≤ (w1.alloc (.cells #[.int .i64 77, .string ⟨#[]⟩, .string ⟨#[]⟩, .int .i64 0, .int .i64 0, .int .i64 78, .string ⟨#[]⟩, .string ⟨#[]⟩, .int .i64 0, .int .i64 0] 44)).heap.size) := by show _ ≤ _; rw [World.size_alloc]; have := lt_of_blk HA1.out; omega
  clear hr1 hb1 HOP
  go_wp2_with (at_builtin; refine wpList_append_own_at _ rfl _ _ 31 rfl (w.heap.size + 1) 44 i0 (.agg #[.int .i64 0, .string ⟨#[]⟩, .string ⟨#[]⟩, .int .i64 0, .int .i64 0]) 5 56 Try.underlying31 hi hz0 hz1 hz2 rfl (by decide) (.slice ra n rc) n (opCs ops) rfl HR0.out ⟨w1.heap.size, 0, none⟩ 2 2 [.int .i64 77, .string ⟨#[]⟩, .string ⟨#[]⟩, .int .i64 0, .int .i64 0, .int .i64 78, .string ⟨#[]⟩, .string ⟨#[]⟩, .int .i64 0, .int .i64 0] rfl rfl HC0.out H1C.out HMX.out hl HWS.out ?_)
  intro v' w2 hown' hgrow _ hat
  obtain ⟨ga, gc, rfl, -, hga⟩ := owns_form hown'
  obtain ⟨g, rfl⟩ : ∃ g, ga = some ⟨g, 0, none⟩ := by
    cases ga with
    | none => rcases hown'.2 with ⟨_, h0⟩ | ⟨g', cap, cur, hv, _⟩
              · omega
              · cases hv
    | some ad => obtain ⟨g, rfl⟩ := hga ad rfl; exact ⟨g, rfl⟩
  have hgc : n + 2 ≤ gc := by
    rcases hown'.2 with ⟨h0, _⟩ | ⟨g', cap, cur, hv, _, _, hnn, _⟩
    · cases h0
    · cases hv; exact hnn
  have hgm : gc ≤ maxLen := by
    rcases hown'.2 with ⟨h0, _⟩ | ⟨g', cap, cur, hv, _, _, _, hmm, _⟩
    · cases h0
    · cases hv; exact hmm
  have HR2 : Hid (w2.ownsRow (w.heap.size + 1) 44 5 (.slice (some ⟨g, 0, none⟩) (n + 2) gc) (n + 2) (opCs (ops ++ [opK 77, opK 78]))) := by
    have e1 : opCs (ops ++ [opK 77, opK 78]) = opCs ops ++ [.int .i64 77, .string ⟨#[]⟩, .string ⟨#[]⟩, .int .i64 0, .int .i64 0, .int .i64 78, .string ⟨#[]⟩, .string ⟨#[]⟩, .int .i64 0, .int .i64 0] := by
      unfold opCs
      rw [rowCs_append]
      simp [rowCs]
    rw [e1]
    exact hown'
  have hBA : w.heap.size ≤ (w1.alloc (.cells #[.int .i64 77, .string ⟨#[]⟩, .string ⟨#[]⟩, .int .i64 0, .int .i64 0, .int .i64 78, .string ⟨#[]⟩, .string ⟨#[]⟩, .int .i64 0, .int .i64 0] 44)).heap.size := by have := HWS.out; omega
  have HB2 : Hid (Below w.heap.size w w2) := (HB1.out.alloc HB1.out.size _).grown hgrow hBA (fun j hj => by have := (HR1.out.lt j hj).1; omega)
  have HA2 : Hid (w2.heap[w.heap.size]? = some (.cells #[.int .i64 s, .int .i64 v, .int .i64 k, .int .i64 se, .int .i64 rq, .slice a n c] 33 (0, 0))) := by
    show _ = _
    rw [hgrow.block _ (Nat.lt_of_lt_of_le (Nat.lt_succ_self _) HWS.out) (fun e => by have := (HR1.out.lt _ e.symm).1; omega)]
    exact new_old HA1.out _
  obtain ⟨q0, q1, q2, q3, q4, q5⟩ := cells_6 HA2.out
  unfold maxLen at hgm
  have hgl : g < w2.heap.size := (HR2.out.lt g rfl).2
  have hAl : w.heap.size < w2.heap.size := lt_of_blk HA2.out
  have hA0 : ∀ (ob : Obj) (o : Nat), (w2.alloc ob).cell? ⟨w.heap.size, o, none⟩ = w2.cell? ⟨w.heap.size, o, none⟩ := fun ob o => ((Below.refl _ w2).alloc (Nat.le_refl _) ob).cell (p := ⟨w.heap.size, o, none⟩) hAl
  have hgA : w.heap.size + 1 ≤ g := (HR2.out.lt g rfl).1
  clear hown' hgrow hat hga HR0 HC0 H1C HMX HWS HR1 HA1 hBA HB1 hi hz0 hz1 hz2
  go_wp2_with fail
  have hb2a : Below w2.heap.size w2 (w2.alloc (.cells #[.int .i64 s, .int .i64 v, .int .i64 k, .int .i64 se, .int .i64 rq, .slice (some ⟨g, 0, none⟩) n gc] 33)) := (Below.refl _ _).alloc (Nat.le_refl _) _
  refine Calls.mono (HAP.out _ (.slice (some ⟨g, 0, none⟩) n gc) (trans2 HB2.out hb2a)) ?_
  rintro e' w3 ⟨rfl, hb3⟩
  have HB23 : Hid (Below w2.heap.size w2 w3) := trans2 hb2a hb3
  have HB3 : Hid (Below w.heap.size w w3) := trans2 HB2.out HB23.out
  have HA3 : Hid (w3.heap[w.heap.size]? = some (.cells #[.int .i64 s, .int .i64 v, .int .i64 k, .int .i64 se, .int .i64 rq, .slice a n c] 33 (0, 0))) := kept_block HB23.out HA2.out
  have HR3 : Hid (w3.ownsRow (w.heap.size + 1) 44 5 (.slice (some ⟨g, 0, none⟩) (n + 2) gc) (n + 2) (opCs (ops ++ [opK 77, opK 78]))) := owns_below HR2.out HB23.out
  clear hb2a hb3 HB23 q0 q1 q2 q3 q4 q5 hA0 HA2 HR2 HB2
  obtain ⟨q0, q1, q2, q3, q4, q5⟩ := cells_6 HA3.out
  go_wp2_with fail
  refine Calls.mono (HXA.out _ (.slice a n c) HB3.out) ?_
  rintro e' w4 ⟨rfl, hb4⟩
  have HB4 : Hid (Below w.heap.size w w4) := trans2 HB3.out hb4
  have HA4 : Hid (w4.heap[w.heap.size]? = some (.cells #[.int .i64 s, .int .i64 v, .int .i64 k, .int .i64 se, .int .i64 rq, .slice a n c] 33 (0, 0))) := kept_block hb4 HA3.out
  have HR4 : Hid (w4.ownsRow (w.heap.size + 1) 44 5 (.slice (some ⟨g, 0, none⟩) (n + 2) gc) (n + 2) (opCs (ops ++ [opK 77, opK 78]))) := owns_below HR3.out hb4
  clear hb4 q0 q1 q2 q3 q4 q5 HA3 HR3 HB3 HXA HAP
  obtain ⟨-, -, -, -, -, q5⟩ := cells_6 HA4.out
  have hrow : w4.ownsRow (w.heap.size + 1) 44 5 (.slice (some ⟨g, 0, none⟩) (n + 2) gc) (n + 2) (rowCs OpT.cells (ops ++ [opK 77, opK 78])) := HR4.out
  have hOs4 : Os w4 (some ⟨g, 0, none⟩) ops := by
    have h9 := ls_of_row op_len hrow (by decide) (by rw [List.length_append, HN.out]; rfl)
    rcases h9 with h9 | ⟨b', o', hab, hlt, hc⟩
    · simp at h9
    · refine .inr ⟨b', o', hab, hlt, fun i t hi j x hx => hc i t ?_ j x hx⟩
      rw [List.getElem?_append_left (List.getElem?_eq_some_iff.1 hi).1]
      exact hi
  have k1 : w4.cell? ⟨g, n * 5, none⟩ = some (.int .i64 77) := by
    have h8 := rowCs_at op_len (ops ++ [opK 77, opK 78]) n 0 (opK 77) (.int .i64 77) (by rw [List.getElem?_append_right (by rw [HN.out]; exact Nat.le_refl _), HN.out, Nat.sub_self]; rfl) rfl []
    rw [List.append_nil, Nat.add_zero] at h8
    exact cell_n hrow h8
  have k2 : w4.cell? ⟨g, (n + 1) * 5, none⟩ = some (.int .i64 78) := by
    have h8 := rowCs_at op_len (ops ++ [opK 77, opK 78]) (n + 1) 0 (opK 78) (.int .i64 78) (by rw [List.getElem?_append_right (by rw [HN.out]; exact Nat.le_succ _), HN.out, show n + 1 - n = 1 by omega]; rfl) rfl []
    rw [List.append_nil, Nat.add_zero] at h8
    exact cell_n hrow h8
  have HOS4 : Hid (Os w4 (some ⟨g, 0, none⟩) ops) := hOs4
  have HOE4 : Hid (Os w4 a ops) := HO.out.below HB4.out
  have HSO : Hid (∀ w', Below w4.heap.size w4 w' → _) := fun w' hb => sameOps_any (some ⟨g, 0, none⟩) a gc c n n ops ops w' (HOS4.out.below hb) (HOE4.out.below hb) HN.out HN.out (by unfold maxLen; omega)
  rw [decide_eq_true rfl] at HSO
  clear hrow hOs4
  have i1 : (n : Int) < (n : Int) + 2 := by omega
  have i2 : (n : Int) + 1 < (n : Int) + 2 := by omega
  have i6 : (0 : Int) ≤ (n : Int) + 1 := by omega
  have i3 : (n : Int) ≤ (gc : Int) := by omega
  have i4 : IntKind.i64.wrap ((n : Int) + 1) = (n : Int) + 1 := by rw [IntKind.wrap_i64]; omega
  have i5 : ((n : Int) + 1).toNat = n + 1 := by omega
  have hAl4 : w.heap.size < w4.heap.size := lt_of_blk HA4.out
  have hgl4 : g < w4.heap.size := (HR4.out.lt g rfl).2
  go_wp2_with fail
  go_region_held3 (fun w' => w'.cell? ⟨w.heap.size, 5, none⟩ = some (.slice a n c) ∧ w'.cell? ⟨g, n * 5, none⟩ = some (.int .i64 77) ∧ w'.cell? ⟨g, (n + 1) * 5, none⟩ = some (.int .i64 78)) (first | (simp only [World.cell?_drew, World.cell?_drewN, q5, k1, k2, and_self]; done) | fail)
    (first
    | (go_at_call 31; refine (HSO.out _ (by first | exact below_drewN (Below.refl _ _) _ | exact below_drew (Below.refl _ _))).mono ?_
       rintro e' w5 ⟨rfl, hb5⟩
       have HB5 : Hid (Below w4.heap.size w4 w5) := trans2 (below_drew (Below.refl _ _)) hb5
       have hq5 : ∀ k o v, k < w4.heap.size → w4.cell? ⟨k, o, none⟩ = some v → w5.cell? ⟨k, o, none⟩ = some v := fun k o v hk hv => by rw [hb5.cell (p := ⟨k, o, none⟩) hk]; exact hv
       have q5 := hq5 _ _ _ hAl4 q5
       have k1 := hq5 _ _ _ hgl4 k1
       have k2 := hq5 _ _ _ hgl4 k2
       clear hb5 hq5))
  have HA5 : Hid (w5.heap[w.heap.size]? = some (.cells #[.int .i64 s, .int .i64 v, .int .i64 k, .int .i64 se, .int .i64 rq, .slice a n c] 33 (0, 0))) := kept_block HB5.out HA4.out
  have HG5 : Hid (∃ cur : Array Value, w5.heap[g]? = some (.cells cur 44 (0, 0)) ∧ (n + 2) * 5 ≤ cur.size) := by
    have h9 := owns_below HR4.out HB5.out
    rcases h9.2 with ⟨h0, _⟩ | ⟨g', cap', cur, hv, _, hg, _, _, hsz, ht⟩
    · cases h0
    · cases hv
      refine ⟨cur, hg, ?_⟩
      have h10 := h9.1
      have h11 := congrArg List.length ht
      rw [List.length_take, Array.length_toList] at h11
      omega
  have HBW : Hid (Below w.heap.size w w5) := trans2 HB4.out HB5.out
  clear i1 i2 i3 i4 i5 i6 q5 k1 k2 hgc hgm
  go_wp2_with fail
  go_loopw [11] (fun i wr => ∃ q : Nat, i = .int .i64 q ∧ q ≤ n ∧ Hid (wr.heap[w.heap.size]? = some (.cells #[.int .i64 s, .int .i64 v, .int .i64 k, .int .i64 se, .int .i64 rq, .slice a n c] 33 (0, 0))) ∧ Hid (∃ cur : Array Value, wr.heap[g]? = some (.cells cur 44 (0, 0)) ∧ (n + 2) * 5 ≤ cur.size) ∧ Hid (Below w.heap.size w wr)) (fun i _ => n - (intOf i).toNat)
  case atStart => exact ⟨0, rfl, Nat.zero_le _, HA5, HG5, HBW⟩
  case round =>
    obtain ⟨q, rfl, hq, HA, HG, HB⟩ := hrel
    obtain ⟨-, -, -, -, -, q5⟩ := cells_6 HA.out
    by_cases hlt : q < n
    · have hlt' : (q : Int) < (n : Int) := by omega
      have hlt2 : (q : Int) < (n : Int) + 2 := by omega
      obtain ⟨cur, hg, hsz⟩ := HG.out
      obtain ⟨y0, y1, y2, y3, y4, p0, p1, p2, p3, p4⟩ := five_cells hg (o := q * 5) (by omega)
      have fg := free_blk hg
      have HG' : Hid (wr.heap[g]? = some (.cells cur 44 (0, 0)) ∧ (n + 2) * 5 ≤ cur.size) := ⟨hg, hsz⟩
      clear hg hsz
      go_wp2_with fail
      go_roundw
      case rel =>
        refine ⟨q + 1, by go_num, by omega, ?_, ?_, ?_⟩
        · exact other_blk (other_blk (other_blk (other_blk (other_blk HA.out (by omega)) (by omega)) (by omega)) (by omega)) (by omega)
        · exact ⟨_, heap_setCell_same _ _ _ _ _ _ (heap_setCell_same _ _ _ _ _ _ (heap_setCell_same _ _ _ _ _ _ (heap_setCell_same _ _ _ _ _ _ (heap_setCell_same _ _ _ _ _ _ HG'.out.1)))), by simpa using HG'.out.2⟩
        · exact ((((HB.out.setCell (by show _ ≤ g; omega) _).setCell (by show _ ≤ g; omega) _).setCell (by show _ ≤ g; omega) _).setCell (by show _ ≤ g; omega) _).setCell (by show _ ≤ g; omega) _
      case measure => simp [intOf]; omega
    · obtain rfl : q = n := by omega
      have hge : ¬ (q : Int) < (q : Int) := by omega
      go_wp2_with fail
      go_ret
      exact ⟨by simp, HB.out⟩
set_option maxHeartbeats 3200000 in
set_option maxRecDepth 100000 in
theorem append1_ok {w0 : World} (b bx : Nat) (e : EnT) (a : Option Addr) (c n : Nat) (w : World) {R : RingT} {F : Nat} {O : Int} {H : List EnT} {P : List PEnt} {la : Option Addr} {lc : Nat} (h : RingAt w b R) (hx : RefAt w0 w bx R F O H P la lc) (ho : Os w a e.ops) (hn : e.ops.length = n) (hl : (n + 2) * 56 ≤ 140737488355328) (ho0 : Os w0 a e.ops) (hw : Below w0.heap.size w0 w) (hb0 : w0.heap.size ≤ b) (hs : e.Small) (hH : H.length < 1000) (hm : R.may e = 0) :
    Calls Try.prog 42 #[.pointer (some ⟨b, 0, none⟩), .pointer (some ⟨bx, 0, none⟩), e.val (.slice a n c)] w fun e' w' => e' = .returned (.bool true) ∧ PlOk w0 b bx F O (H.length + 1) w' := by
  obtain ⟨i0, hi, hz0, hz1, hz2⟩ := info_parts Try.infoOp
  obtain ⟨s, v, k, se, rq, ops⟩ := e
  simp only at ho ho0 hn
  have HRG : Hid (RingAt w b R) := h
  have HRF : Hid (RefAt w0 w bx R F O H P la lc) := hx
  have HO0 : Hid (Os w0 a ops) := ho0
  have HW : Hid (Below w0.heap.size w0 w ∧ w0.heap.size ≤ b ∧ b < w.heap.size ∧ w0.heap.size ≤ bx ∧ bx < w.heap.size) := ⟨hw, hb0, h.lt, hx.lo, lt_of_blk hx.box⟩
  have HMC : Hid (R.may ⟨s, v, k, se, rq, ops⟩ = 0) := hm
  have HSM : Hid (EnT.Small ⟨s, v, k, se, rq, ops⟩) := hs
  have HHL : Hid (H.length < 1000) := hH
  have HO : Hid (Os w a ops) := ho
  have HN : Hid (ops.length = n) := hn
  have HOP : Hid (∀ w', Below w.heap.size w w' → _) := fun w' hb => ops_any a c n ops w' (ho.below hb) hn (by omega)
  clear h hx ho ho0 hn hw hb0 hm hs hH
  go_enter Try.func42, Try.ntmps42
  go_wp2_with fail
  refine Calls.mono (HOP.out _ ((Below.refl _ _).alloc (Nat.le_refl _) _)) ?_
  rintro e' w1 ⟨v1, rfl, hr1, hb1⟩
  have HA1 : Hid (w1.heap[w.heap.size]? = some (.cells #[.int .i64 s, .int .i64 v, .int .i64 k, .int .i64 se, .int .i64 rq, .slice a n c] 33 (0, 0))) := kept_block hb1 (heap_alloc_new _ _)
  have HB1 : Hid (Below w.heap.size w w1) := trans2 ((Below.refl _ _).alloc (Nat.le_refl _) _) hb1
  obtain ⟨ra, rc, rfl, -, -⟩ := owns_form hr1
  have HR1 : Hid (w1.ownsRow (w.heap.size + 1) 44 5 (.slice ra n rc) n (opCs ops)) := by
    have := hr1
    rw [World.size_alloc] at this
    exact this
  have HR0 : Hid ((w1.alloc (.cells #[.int .i64 77, .string ⟨#[]⟩, .string ⟨#[]⟩, .int .i64 0, .int .i64 0, .int .i64 78, .string ⟨#[]⟩, .string ⟨#[]⟩, .int .i64 0, .int .i64 0] 44)).ownsRow (w.heap.size + 1) 44 5 (.slice ra n rc) n (opCs ops)) := HR1.out.alloc _
  have HC0 : Hid (∀ j u, [Value.int .i64 77, .string ⟨#[]⟩, .string ⟨#[]⟩, .int .i64 0, .int .i64 0, .int .i64 78, .string ⟨#[]⟩, .string ⟨#[]⟩, .int .i64 0, .int .i64 0][j]? = some u → (w1.alloc (.cells #[.int .i64 77, .string ⟨#[]⟩, .string ⟨#[]⟩, .int .i64 0, .int .i64 0, .int .i64 78, .string ⟨#[]⟩, .string ⟨#[]⟩, .int .i64 0, .int .i64 0] 44)).cell? ((⟨w1.heap.size, 0, none⟩ : Addr).add j) = some u) := cells_new w1 [.int .i64 77, .string ⟨#[]⟩, .string ⟨#[]⟩, .int .i64 0, .int .i64 0, .int .i64 78, .string ⟨#[]⟩, .string ⟨#[]⟩, .int .i64 0, .int .i64 0] 44
  have H1C : Hid (∀ u ∈ [Value.int .i64 77, .string ⟨#[]⟩, .string ⟨#[]⟩, .int .i64 0, .int .i64 0, .int .i64 78, .string ⟨#[]⟩, .string ⟨#[]⟩, .int .i64 0, .int .i64 0], u.oneCell' = true) := fun u hu => by
    simp only [List.mem_cons, List.not_mem_nil, or_false] at hu
    rcases hu with rfl | rfl | rfl | rfl | rfl | rfl | rfl | rfl | rfl | rfl <;> rfl
  have HMX : Hid (n + 2 ≤ maxLen) := by show n + 2 ≤ maxLen; unfold maxLen; omega
  have HWS : Hid (w.heap.size + 1 ≤ (w1.alloc (.cells #[.int .i64 77, .string ⟨#[]⟩, .string ⟨#[]⟩, .int .i64 0, .int .i64 0, .int .i64 78, .string ⟨#[]⟩, .string ⟨#[]⟩, .int .i64 0, .int .i64 0] 44)).heap.size) := by show _ ≤ _; rw [World.size_alloc]; have := lt_of_blk HA1.out; omega
  clear hr1 hb1 HOP
  go_wp2_with (at_builtin; refine wpList_append_own_at _ rfl _ _ 31 rfl (w.heap.size + 1) 44 i0 (.agg #[.int .i64 0, .string ⟨#[]⟩, .string ⟨#[]⟩, .int .i64 0, .int .i64 0]) 5 56 Try.underlying31 hi hz0 hz1 hz2 rfl (by decide) (.slice ra n rc) n (opCs ops) rfl HR0.out ⟨w1.heap.size, 0, none⟩ 2 2 [.int .i64 77, .string ⟨#[]⟩, .string ⟨#[]⟩, .int .i64 0, .int .i64 0, .int .i64 78, .string ⟨#[]⟩, .string ⟨#[]⟩, .int .i64 0, .int .i64 0] rfl rfl HC0.out H1C.out HMX.out hl HWS.out ?_)
  intro v' w2 hown' hgrow _ hat
  obtain ⟨ga, gc, rfl, -, hga⟩ := owns_form hown'
  obtain ⟨g, rfl⟩ : ∃ g, ga = some ⟨g, 0, none⟩ := by
    cases ga with
    | none => rcases hown'.2 with ⟨_, h0⟩ | ⟨g', cap, cur, hv, _⟩
              · omega
              · cases hv
    | some ad => obtain ⟨g, rfl⟩ := hga ad rfl; exact ⟨g, rfl⟩
  have hgc : n + 2 ≤ gc := by
    rcases hown'.2 with ⟨h0, _⟩ | ⟨g', cap, cur, hv, _, _, hnn, _⟩
    · cases h0
    · cases hv; exact hnn
  have hgm : gc ≤ maxLen := by
    rcases hown'.2 with ⟨h0, _⟩ | ⟨g', cap, cur, hv, _, _, _, hmm, _⟩
    · cases h0
    · cases hv; exact hmm
  have HR2 : Hid (w2.ownsRow (w.heap.size + 1) 44 5 (.slice (some ⟨g, 0, none⟩) (n + 2) gc) (n + 2) (opCs (ops ++ [opK 77, opK 78]))) := by
    have e1 : opCs (ops ++ [opK 77, opK 78]) = opCs ops ++ [.int .i64 77, .string ⟨#[]⟩, .string ⟨#[]⟩, .int .i64 0, .int .i64 0, .int .i64 78, .string ⟨#[]⟩, .string ⟨#[]⟩, .int .i64 0, .int .i64 0] := by
      unfold opCs
      rw [rowCs_append]
      simp [rowCs]
    rw [e1]
    exact hown'
  have hBA : w.heap.size ≤ (w1.alloc (.cells #[.int .i64 77, .string ⟨#[]⟩, .string ⟨#[]⟩, .int .i64 0, .int .i64 0, .int .i64 78, .string ⟨#[]⟩, .string ⟨#[]⟩, .int .i64 0, .int .i64 0] 44)).heap.size := by have := HWS.out; omega
  have HB2 : Hid (Below w.heap.size w w2) := (HB1.out.alloc HB1.out.size _).grown hgrow hBA (fun j hj => by have := (HR1.out.lt j hj).1; omega)
  have HA2 : Hid (w2.heap[w.heap.size]? = some (.cells #[.int .i64 s, .int .i64 v, .int .i64 k, .int .i64 se, .int .i64 rq, .slice a n c] 33 (0, 0))) := by
    show _ = _
    rw [hgrow.block _ (Nat.lt_of_lt_of_le (Nat.lt_succ_self _) HWS.out) (fun e => by have := (HR1.out.lt _ e.symm).1; omega)]
    exact new_old HA1.out _
  obtain ⟨q0, q1, q2, q3, q4, q5⟩ := cells_6 HA2.out
  unfold maxLen at hgm
  have hgl : g < w2.heap.size := (HR2.out.lt g rfl).2
  have hAl : w.heap.size < w2.heap.size := lt_of_blk HA2.out
  have hA0 : ∀ (ob : Obj) (o : Nat), (w2.alloc ob).cell? ⟨w.heap.size, o, none⟩ = w2.cell? ⟨w.heap.size, o, none⟩ := fun ob o => ((Below.refl _ w2).alloc (Nat.le_refl _) ob).cell (p := ⟨w.heap.size, o, none⟩) hAl
  have hgA : w.heap.size + 1 ≤ g := (HR2.out.lt g rfl).1
  clear hown' hgrow hat hga HR0 HC0 H1C HMX HWS HR1 HA1 hBA HB1 hi hz0 hz1 hz2
  go_wp2_with fail
  have hb2a : Below w2.heap.size w2 (w2.alloc (.cells #[.int .i64 s, .int .i64 v, .int .i64 k, .int .i64 se, .int .i64 rq, .slice (some ⟨g, 0, none⟩) n gc] 33)) := (Below.refl _ _).alloc (Nat.le_refl _) _
  have hB2a : Below w.heap.size w (w2.alloc (.cells #[.int .i64 s, .int .i64 v, .int .i64 k, .int .i64 se, .int .i64 rq, .slice (some ⟨g, 0, none⟩) n gc] 33)) := trans2 HB2.out hb2a
  have HR2a : Hid ((w2.alloc (.cells #[.int .i64 s, .int .i64 v, .int .i64 k, .int .i64 se, .int .i64 rq, .slice (some ⟨g, 0, none⟩) n gc] 33)).ownsRow (w.heap.size + 1) 44 5 (.slice (some ⟨g, 0, none⟩) (n + 2) gc) (n + 2) (opCs (ops ++ [opK 77, opK 78]))) := owns_below HR2.out hb2a
  have hOsG : Os (w2.alloc (.cells #[.int .i64 s, .int .i64 v, .int .i64 k, .int .i64 se, .int .i64 rq, .slice (some ⟨g, 0, none⟩) n gc] 33)) (some ⟨g, 0, none⟩) ops := by
    have hrow : (w2.alloc (.cells #[.int .i64 s, .int .i64 v, .int .i64 k, .int .i64 se, .int .i64 rq, .slice (some ⟨g, 0, none⟩) n gc] 33)).ownsRow (w.heap.size + 1) 44 5 (.slice (some ⟨g, 0, none⟩) (n + 2) gc) (n + 2) (rowCs OpT.cells (ops ++ [opK 77, opK 78])) := HR2a.out
    have h9 := ls_of_row op_len hrow (by decide) (by rw [List.length_append, HN.out]; rfl)
    rcases h9 with h9 | ⟨b', o', hab, hlt, hc⟩
    · simp at h9
    · refine .inr ⟨b', o', hab, hlt, fun i t hi j x hx => hc i t ?_ j x hx⟩
      rw [List.getElem?_append_left (List.getElem?_eq_some_iff.1 hi).1]
      exact hi
  have HBL : Hid (b < w.heap.size ∧ bx < w.heap.size ∧ w.heap.size + 1 ≤ g ∧ g < w2.heap.size) := ⟨HW.out.2.2.1, HW.out.2.2.2.2, hgA, hgl⟩
  have HAPP : Hid _ := append_okD b R ⟨s, v, k, se, rq, ops⟩ (some ⟨g, 0, none⟩) n gc _ (HRG.out.below hB2a) HMC.out HN.out hOsG (fun b' o' hh => by cases hh; have := HBL.out; omega) HSM.out (fun y => y < w.heap.size) (HRG.out.d.below HBL.out.1 hB2a)
  refine Calls.mono HAPP.out ?_
  rintro e' w3 ⟨rfl, hs3, hd3⟩
  have hr3 : RingAt w3 b (R.app ⟨s, v, k, se, rq, ops⟩) := by
    rcases hs3.rp with ⟨h, _⟩ | ⟨b', he, hr⟩
    · cases h
    · cases he; exact hr
  have HG3 : Hid (RingAt w3 b (R.app ⟨s, v, k, se, rq, ops⟩)) := hr3
  have HD3 : Hid (RingD w3 b (R.app ⟨s, v, k, se, rq, ops⟩) (fun y => y < w.heap.size ∨ w2.heap.size < y + 1)) := fun k e hk => by
    obtain ⟨x, h1, h2, h3⟩ := hd3 k e hk
    refine ⟨x, h1, fun y hy => ?_, h3⟩
    rcases h2 y hy with h4 | h4
    · exact .inl h4
    · rw [World.size_alloc] at h4; exact .inr (by omega)
  have hk3 : Kp (fun y => (some ⟨b, 0, none⟩ : Option Addr) = some ⟨y, 0, none⟩) (w2.alloc (.cells #[.int .i64 s, .int .i64 v, .int .i64 k, .int .i64 se, .int .i64 rq, .slice (some ⟨g, 0, none⟩) n gc] 33)) w3 := Kp.of_chg hs3.chg
  have HF3 : Hid (RefAt w0 w3 bx R F O H P la lc) := (HRF.out.below hB2a).ring (HRG.out.below hB2a) hs3.chg
  have HA3 : Hid (w3.heap[w.heap.size]? = some (.cells #[.int .i64 s, .int .i64 v, .int .i64 k, .int .i64 se, .int .i64 rq, .slice a n c] 33 (0, 0))) := hk3.cells _ _ _ _ (kept_block hb2a HA2.out) (fun e => by cases e; have := HBL.out; omega)
  have HR3 : Hid (w3.ownsRow (w.heap.size + 1) 44 5 (.slice (some ⟨g, 0, none⟩) (n + 2) gc) (n + 2) (opCs (ops ++ [opK 77, opK 78]))) := owns_kp HR2a.out hk3 (fun y hy e => by cases e; have := (HR2a.out.lt b hy).1; have := HBL.out; omega)
  have HB3 : Hid (Below w0.heap.size w0 w3) := (trans2 HW.out.1 hB2a).trans (hs3.chg.below (trans2 HW.out.1 hB2a).size (fun y _ e => by cases e; exact HW.out.2.1))
  have HS3 : Hid (w2.heap.size < w3.heap.size) := Nat.lt_of_lt_of_le (by rw [World.size_alloc]; exact Nat.lt_succ_self _) hs3.chg.size
  clear hb2a hs3 hd3 hr3 hk3 hB2a hOsG HAPP q0 q1 q2 q3 q4 q5 hA0 HA2 HR2 HR2a HB2
  obtain ⟨q0, q1, q2, q3, q4, q5⟩ := cells_6 HA3.out
  go_wp2_with fail
  refine Calls.mono (rApp_ok w3 bx ⟨s, v, k, se, rq, ops⟩ a n c HF3.out (HO0.out.below HB3.out) HN.out HSM.out HHL.out HB3.out.size HMC.out) ?_
  rintro e' w4 ⟨rfl, ⟨x4, na4, nc4, hf4, hx4, hn4⟩, hs4⟩
  have hXS : ∀ y, XS bx la y → y < w.heap.size := fun y hy => by
    rcases hy with rfl | ⟨o, rfl⟩
    · exact HBL.out.2.1
    · have h9 := HRF.out.mem.row
      rcases h9.2 with ⟨h0, _⟩ | ⟨g', cap, cur, hv, _, hg, _⟩
      · simp only [Value.slice.injEq] at h0; cases h0.1
      · simp only [Value.slice.injEq, Option.some.injEq] at hv
        have := hv.1
        cases this
        exact lt_of_blk hg
  have HG4 : Hid (RingAt w4 b (R.app ⟨s, v, k, se, rq, ops⟩)) := HG3.out.ref HF3.out hs4.kp
  have HD4 : Hid (RingD w4 b (R.app ⟨s, v, k, se, rq, ops⟩) (fun y => y < w.heap.size ∨ w2.heap.size < y + 1)) := HD3.out.ref HG3.out HF3.out hs4.kp
  have HF4 : Hid (RefAt w0 w4 bx (R.app ⟨s, v, k, se, rq, ops⟩) F O (H ++ [⟨s, v, k, se, rq, ops⟩]) (P ++ [⟨⟨s, v, k, se, rq, ops⟩, x4⟩]) na4 nc4) := hf4
  have HA4 : Hid (w4.heap[w.heap.size]? = some (.cells #[.int .i64 s, .int .i64 v, .int .i64 k, .int .i64 se, .int .i64 rq, .slice a n c] 33 (0, 0))) := hs4.kp.cells _ _ _ _ HA3.out (fun hy => by have := hXS _ hy; omega)
  have HR4 : Hid (w4.ownsRow (w.heap.size + 1) 44 5 (.slice (some ⟨g, 0, none⟩) (n + 2) gc) (n + 2) (opCs (ops ++ [opK 77, opK 78]))) := owns_kp HR3.out hs4.kp (fun y hy hs => by have h1 := hXS y hs; have h2 := (HR3.out.lt y hy).1; omega)
  have HB4 : Hid (Below w0.heap.size w0 w4) := hs4.bel HB3.out
  have HNG : Hid (∀ W, Kp (fun y => y = g) w4 W → Below w0.heap.size w0 W → PlOk w0 b bx F O (H.length + 1) W) := fun W hk hb => by
    have hgb := HBL.out
    have hs := HS3.out
    refine ⟨_, _, _, _, _, HG4.out.apart HD4.out hk (fun e => by omega) (fun y hy e => by omega), HF4.out.apart hk (fun e => by omega) (fun y hy e => ?_) (fun p hp y hy e => ?_), by rw [List.length_append]; exact Nat.le_refl _, hb⟩
    · rw [List.length_append] at hy
      rcases hn4 y hy with h1 | h1
      · have h9 : y < w.heap.size := by
          have h8 := HRF.out.mem.row
          exact (h8.lt y h1).2
        omega
      · omega
    · rcases List.mem_append.1 hp with h1 | h1
      · have := ((HRF.out.mem.ops p h1).lt y hy).2
        omega
      · rw [List.mem_singleton] at h1
        subst h1
        have := hx4 y hy
        omega
  clear hf4 hx4 hn4 hs4 hXS q0 q1 q2 q3 q4 q5 HA3 HR3 HB3 HG3 HD3 HF3 HG4 HD4 HF4
  obtain ⟨-, -, -, -, -, q5⟩ := cells_6 HA4.out
  have hrow : w4.ownsRow (w.heap.size + 1) 44 5 (.slice (some ⟨g, 0, none⟩) (n + 2) gc) (n + 2) (rowCs OpT.cells (ops ++ [opK 77, opK 78])) := HR4.out
  have hOs4 : Os w4 (some ⟨g, 0, none⟩) ops := by
    have h9 := ls_of_row op_len hrow (by decide) (by rw [List.length_append, HN.out]; rfl)
    rcases h9 with h9 | ⟨b', o', hab, hlt, hc⟩
    · simp at h9
    · refine .inr ⟨b', o', hab, hlt, fun i t hi j x hx => hc i t ?_ j x hx⟩
      rw [List.getElem?_append_left (List.getElem?_eq_some_iff.1 hi).1]
      exact hi
  have k1 : w4.cell? ⟨g, n * 5, none⟩ = some (.int .i64 77) := by
    have h8 := rowCs_at op_len (ops ++ [opK 77, opK 78]) n 0 (opK 77) (.int .i64 77) (by rw [List.getElem?_append_right (by rw [HN.out]; exact Nat.le_refl _), HN.out, Nat.sub_self]; rfl) rfl []
    rw [List.append_nil, Nat.add_zero] at h8
    exact cell_n hrow h8
  have k2 : w4.cell? ⟨g, (n + 1) * 5, none⟩ = some (.int .i64 78) := by
    have h8 := rowCs_at op_len (ops ++ [opK 77, opK 78]) (n + 1) 0 (opK 78) (.int .i64 78) (by rw [List.getElem?_append_right (by rw [HN.out]; exact Nat.le_succ _), HN.out, show n + 1 - n = 1 by omega]; rfl) rfl []
    rw [List.append_nil, Nat.add_zero] at h8
    exact cell_n hrow h8
  have HOS4 : Hid (Os w4 (some ⟨g, 0, none⟩) ops) := hOs4
  have HOE4 : Hid (Os w4 a ops) := HO0.out.below HB4.out
  have HSO : Hid (∀ w', Below w4.heap.size w4 w' → _) := fun w' hb => sameOps_any (some ⟨g, 0, none⟩) a gc c n n ops ops w' (HOS4.out.below hb) (HOE4.out.below hb) HN.out HN.out (by unfold maxLen; omega)
  rw [decide_eq_true rfl] at HSO
  clear hrow hOs4
  have i1 : (n : Int) < (n : Int) + 2 := by omega
  have i2 : (n : Int) + 1 < (n : Int) + 2 := by omega
  have i6 : (0 : Int) ≤ (n : Int) + 1 := by omega
  have i3 : (n : Int) ≤ (gc : Int) := by omega
  have i4 : IntKind.i64.wrap ((n : Int) + 1) = (n : Int) + 1 := by rw [IntKind.wrap_i64]; omega
  have i5 : ((n : Int) + 1).toNat = n + 1 := by omega
  have hAl4 : w.heap.size < w4.heap.size := lt_of_blk HA4.out
  have hgl4 : g < w4.heap.size := (HR4.out.lt g rfl).2
  go_wp2_with fail
  go_region_held3 (fun w' => w'.cell? ⟨w.heap.size, 5, none⟩ = some (.slice a n c) ∧ w'.cell? ⟨g, n * 5, none⟩ = some (.int .i64 77) ∧ w'.cell? ⟨g, (n + 1) * 5, none⟩ = some (.int .i64 78)) (first | (simp only [World.cell?_drew, World.cell?_drewN, q5, k1, k2, and_self]; done) | fail)
    (first
    | (go_at_call 31; refine (HSO.out _ (by first | exact below_drewN (Below.refl _ _) _ | exact below_drew (Below.refl _ _))).mono ?_
       rintro e' w5 ⟨rfl, hb5⟩
       have HB5 : Hid (Below w4.heap.size w4 w5) := trans2 (below_drew (Below.refl _ _)) hb5
       have hq5 : ∀ k o v, k < w4.heap.size → w4.cell? ⟨k, o, none⟩ = some v → w5.cell? ⟨k, o, none⟩ = some v := fun k o v hk hv => by rw [hb5.cell (p := ⟨k, o, none⟩) hk]; exact hv
       have q5 := hq5 _ _ _ hAl4 q5
       have k1 := hq5 _ _ _ hgl4 k1
       have k2 := hq5 _ _ _ hgl4 k2
       clear hb5 hq5))
  have HA5 : Hid (w5.heap[w.heap.size]? = some (.cells #[.int .i64 s, .int .i64 v, .int .i64 k, .int .i64 se, .int .i64 rq, .slice a n c] 33 (0, 0))) := kept_block HB5.out HA4.out
  have HG5 : Hid (∃ cur : Array Value, w5.heap[g]? = some (.cells cur 44 (0, 0)) ∧ (n + 2) * 5 ≤ cur.size) := by
    have h9 := owns_below HR4.out HB5.out
    rcases h9.2 with ⟨h0, _⟩ | ⟨g', cap', cur, hv, _, hg, _, _, hsz, ht⟩
    · cases h0
    · cases hv
      refine ⟨cur, hg, ?_⟩
      have h10 := h9.1
      have h11 := congrArg List.length ht
      rw [List.length_take, Array.length_toList] at h11
      omega
  have HBW : Hid (Kp (fun y => y = g) w4 w5 ∧ Below w0.heap.size w0 w5) := ⟨Kp.of_below HB5.out _, trans2 HB4.out HB5.out⟩
  clear i1 i2 i3 i4 i5 i6 q5 k1 k2 hgc hgm
  go_wp2_with fail
  go_loopw [11] (fun i wr => ∃ q : Nat, i = .int .i64 q ∧ q ≤ n ∧ Hid (wr.heap[w.heap.size]? = some (.cells #[.int .i64 s, .int .i64 v, .int .i64 k, .int .i64 se, .int .i64 rq, .slice a n c] 33 (0, 0))) ∧ Hid (∃ cur : Array Value, wr.heap[g]? = some (.cells cur 44 (0, 0)) ∧ (n + 2) * 5 ≤ cur.size) ∧ Hid (Kp (fun y => y = g) w4 wr ∧ Below w0.heap.size w0 wr)) (fun i _ => n - (intOf i).toNat)
  case atStart => exact ⟨0, rfl, Nat.zero_le _, HA5, HG5, HBW⟩
  case round =>
    obtain ⟨q, rfl, hq, HA, HG, HB⟩ := hrel
    obtain ⟨-, -, -, -, -, q5⟩ := cells_6 HA.out
    by_cases hlt : q < n
    · have hlt' : (q : Int) < (n : Int) := by omega
      have hlt2 : (q : Int) < (n : Int) + 2 := by omega
      obtain ⟨cur, hg, hsz⟩ := HG.out
      obtain ⟨y0, y1, y2, y3, y4, p0, p1, p2, p3, p4⟩ := five_cells hg (o := q * 5) (by omega)
      have fg := free_blk hg
      have HG' : Hid (wr.heap[g]? = some (.cells cur 44 (0, 0)) ∧ (n + 2) * 5 ≤ cur.size) := ⟨hg, hsz⟩
      clear hg hsz
      go_wp2_with fail
      go_roundw
      case rel =>
        refine ⟨q + 1, by go_num, by omega, ?_, ?_, ?_⟩
        · exact other_blk (other_blk (other_blk (other_blk (other_blk HA.out (by omega)) (by omega)) (by omega)) (by omega)) (by omega)
        · exact ⟨_, heap_setCell_same _ _ _ _ _ _ (heap_setCell_same _ _ _ _ _ _ (heap_setCell_same _ _ _ _ _ _ (heap_setCell_same _ _ _ _ _ _ (heap_setCell_same _ _ _ _ _ _ HG'.out.1)))), by simpa using HG'.out.2⟩
        · have hg0 : w0.heap.size ≤ g := by have h1 := HW.out.1.size; have h2 := HBL.out.2.2.1; omega
          have st : ∀ {u v : World} {o : Nat} {x : Value}, Kp (fun y => y = g) w4 u → v = u.setCell ⟨g, o, none⟩ x → Kp (fun y => y = g) w4 v := fun hu hv => by rw [hv]; exact hu.trans (Kp.of_chg (Chg.set _ _ _))
          exact ⟨st (st (st (st (st HB.out.1 rfl) rfl) rfl) rfl) rfl, ((((HB.out.2.setCell hg0 _).setCell hg0 _).setCell hg0 _).setCell hg0 _).setCell hg0 _⟩
      case measure => simp [intOf]; omega
    · obtain rfl : q = n := by omega
      have hge : ¬ (q : Int) < (q : Int) := by omega
      go_wp2_with fail
      go_ret
      exact ⟨by simp, HNG.out _ HB.out.1 HB.out.2⟩
end Go.Proofs.Ytonppfnjeomcoaa
