/-
  Hold and Cut of a ring without room; Ops.
-/
import Derived.Test.YtnmengoefpdaiaaRZero
namespace Go.Proofs.Ytnmengoefpdaiaa
open Go.RowKit
set_option linter.unusedVariables false
set_option linter.unusedSimpArgs false

theorem run_clear_nil (w : World) (ty : TypeId) : (Builtin.clear_ #[27] ty #[.slice none 0 0]).run Try.prog w = .ok (.tuple #[]) w := by
  simp [Builtin.clear_, run_underlying Try.underlying27]
set_option maxHeartbeats 1600000 in
theorem hold_zero (p : Option Addr) (n : Int) (w : World) (h : RP w p zeroR) : Calls Try.prog 19 #[.pointer p, .int .i64 n] w fun e w' => e = .returned (.int .i64 (zeroR.free n)) ∧ Below w.heap.size w w' := by
  have HO : Hid _ := orZero_any p zeroR w h
  obtain ⟨c, hc⟩ : ∃ c, zeroR.free n = c := ⟨_, rfl⟩
  have hn : c = 0 → n = 0 := fun h0 => by rw [← hc, zeroR_free] at h0; split at h0; · cases h0
                                          split at h0
                                          · cases h0
                                          · omega
  have HNN : Hid (c = 0 → n = 0) := hn
  rw [hc]
  clear h hn
  go_enter Try.func19, Try.ntmps19
  go_wp2_with fail
  refine Calls.mono HO.out ?_
  rintro e w1 ⟨b, rfl, hr, hb, -⟩
  have hi := isFree_any b zeroR n w1 hr
  rw [hc] at hi
  have HI : Hid _ := hi
  have c0 : w1.cell? ⟨b, 387, none⟩ = some (.int .i64 0) := hr.hold
  have f0 := hr.free
  obtain ⟨cs, hbx, _⟩ := hr.box
  have hself := setCell_self hbx c0
  have HB : Hid (Below w.heap.size w w1) := hb
  clear hr hb hi hc hbx
  go_wp2_with fail
  refine Calls.mono HI.out ?_
  rintro e w2 ⟨rfl, rfl⟩
  by_cases h0 : c = 0
  · obtain rfl : n = 0 := HNN.out h0
    subst h0
    go_wp2_with fail
    go_ret
    exact ⟨rfl, HB.out⟩
  · go_wp2_with fail
    go_ret
    exact ⟨rfl, HB.out⟩
set_option maxHeartbeats 1600000 in
theorem cut_zero (p : Option Addr) (n : Int) (w : World) (h : RP w p zeroR) : Calls Try.prog 16 #[.pointer p, .int .i64 n] w fun e w' => e = .returned (.int .i64 (zeroR.free n)) ∧ Below w.heap.size w w' := by
  have HO : Hid _ := orZero_any p zeroR w h
  have hcl := run_clear_nil
  obtain ⟨c, hc⟩ : ∃ c, zeroR.free n = c := ⟨_, rfl⟩
  have hn : c = 0 → n = 0 := fun h0 => by rw [← hc, zeroR_free] at h0; split at h0; · cases h0
                                          split at h0
                                          · cases h0
                                          · omega
  have HNN : Hid (c = 0 → n = 0) := hn
  rw [hc]
  clear h hn
  go_enter Try.func16, Try.ntmps16
  go_wp2_with fail
  refine Calls.mono HO.out ?_
  rintro e w1 ⟨b, rfl, hr, hb, -⟩
  have hi := isFree_any b zeroR n w1 hr
  rw [hc] at hi
  have HI : Hid _ := hi
  have c0 : w1.cell? ⟨b, 388, none⟩ = some (.int .i64 0) := hr.last
  have f0 := hr.free
  obtain ⟨cs, hbx, _⟩ := hr.box
  have hself := setCell_self hbx c0
  have HB : Hid (Below w.heap.size w w1) := hb
  clear hr hb hi hc hbx
  go_wp2_with fail
  refine Calls.mono HI.out ?_
  rintro e w2 ⟨rfl, rfl⟩
  by_cases h0 : c = 0
  · obtain rfl : n = 0 := HNN.out h0
    subst h0
    have HP : Hid _ := pieces_none b 0 w2
    go_wp2_with fail
    refine Calls.mono HP.out ?_
    rintro e w3 ⟨rfl, rfl⟩
    go_wp2_with fail
    go_ret
    exact ⟨rfl, HB.out⟩
  · go_wp2_with fail
    go_ret
    exact ⟨rfl, HB.out⟩
set_option maxHeartbeats 3200000 in
set_option maxRecDepth 100000 in
/-- Ops: a list of its own memory. -/
theorem ops_any (a : Option Addr) (c n : Nat) (l : List OpT) (w : World) (h : Os w a l) (hn : l.length = n) (hl : n * 56 ≤ 140737488355328) :
    Calls Try.prog 35 #[.slice a n c] w fun e w' => ∃ v, e = .returned v ∧ w'.ownsRow w.heap.size 49 5 v n (opCs l) ∧ Below w.heap.size w w' := by
  obtain ⟨i0, hi, hz0, hz1, hz2⟩ := info_parts Try.infoOp
  have HS : Hid (Os w a l) := h
  have HN : Hid (l.length = n) := hn
  clear h hn
  go_enter Try.func35, Try.ntmps35
  go_wp2_with fail
  go_loopw [3, 4] (fun m i wr => ∃ q : Nat, i = .int .i64 q ∧ q ≤ n ∧ (∃ a' c', m = .slice a' q c') ∧ Hid (wr.ownsRow w.heap.size 49 5 m q (opCs (l.take q))) ∧ Hid (Below w.heap.size w wr)) (fun _ i _ => n - (intOf i).toNat)
  case atStart => exact ⟨0, rfl, Nat.zero_le _, ⟨_, _, rfl⟩, World.ownsRow_nil _ _ _ _, Below.refl _ _⟩
  case round =>
    obtain ⟨q, rfl, hq, ⟨ma, mc, rfl⟩, HR, HB⟩ := hrel
    by_cases hlt : q < n
    · have hlt' : (q : Int) < (n : Int) := by omega
      obtain ⟨x, hx⟩ : ∃ x, l[q]? = some x := ⟨l[q]'(by rw [HN.out]; exact hlt), List.getElem?_eq_getElem _⟩
      obtain ⟨b, o, rfl, hb, x0, x1, x2, x3, x4⟩ := Os.at (HS.out.below HB.out) hx
      have HX : Hid (l[q]? = some x) := hx
      have HR0 : Hid ((wr.alloc (.cells #[.int .i64 x.k, .string x.p, .string x.d, .int .i64 x.v, .int .i64 x.f] 49)).ownsRow w.heap.size 49 5 (.slice ma q mc) q (opCs (l.take q))) := HR.out.alloc _
      have HC0 : Hid (∀ j u, [Value.int .i64 x.k, .string x.p, .string x.d, .int .i64 x.v, .int .i64 x.f][j]? = some u → (wr.alloc (.cells #[.int .i64 x.k, .string x.p, .string x.d, .int .i64 x.v, .int .i64 x.f] 49)).cell? ((⟨wr.heap.size, 0, none⟩ : Addr).add j) = some u) := cells_new wr [.int .i64 x.k, .string x.p, .string x.d, .int .i64 x.v, .int .i64 x.f] 49
      have H1C : Hid (∀ u ∈ [Value.int .i64 x.k, .string x.p, .string x.d, .int .i64 x.v, .int .i64 x.f], u.oneCell' = true) := op_one x
      have HMX : Hid (q + 1 ≤ maxLen) := by show q + 1 ≤ maxLen; unfold maxLen; omega
      have hby : (q + 1) * 56 ≤ 140737488355328 := by omega
      have HWS : Hid (w.heap.size ≤ (wr.alloc (.cells #[.int .i64 x.k, .string x.p, .string x.d, .int .i64 x.v, .int .i64 x.f] 49)).heap.size) := by show _ ≤ _; rw [World.size_alloc]; have := HB.out.size; omega
      clear hx
      go_wp2_with (at_builtin; refine wpList_append_own_at _ rfl _ _ 36 rfl w.heap.size 49 i0 (.agg #[.int .i64 0, .string ⟨#[]⟩, .string ⟨#[]⟩, .int .i64 0, .int .i64 0]) 5 56 Try.underlying36 hi hz0 hz1 hz2 rfl (by decide) (.slice ma q mc) q (opCs (l.take q)) rfl HR0.out ⟨wr.heap.size, 0, none⟩ 1 1 [.int .i64 x.k, .string x.p, .string x.d, .int .i64 x.v, .int .i64 x.f] rfl rfl HC0.out H1C.out HMX.out hby HWS.out ?_)
      intro v' w1 hown' hgrow _ hat
      obtain ⟨ma', mc', rfl, -, -⟩ := owns_form hown'
      have HR1 : Hid (w1.ownsRow w.heap.size 49 5 (.slice ma' (q + 1) mc') (q + 1) (opCs (l.take (q + 1)))) := by
        have e1 : opCs (l.take (q + 1)) = opCs (l.take q) ++ [.int .i64 x.k, .string x.p, .string x.d, .int .i64 x.v, .int .i64 x.f] := by
          unfold opCs
          rw [take_at HX.out, rowCs_append]
          simp [rowCs]
        rw [e1]
        exact hown'
      have HB1 : Hid (Below w.heap.size w w1) := ((HB.out.alloc HB.out.size _)).grown hgrow HWS.out (fun j hj => (HR.out.lt j hj).1)
      clear hown' hgrow hat
      go_wp2_with fail
      go_roundw
      case rel => exact ⟨q + 1, by go_num, by omega, ⟨_, _, rfl⟩, HR1, HB1⟩
      case measure => simp [intOf]; omega
    · obtain rfl : q = n := by omega
      go_wp2_with fail
      go_ret
      have hr := HR.out
      rw [List.take_of_length_le (by rw [HN.out]; exact Nat.le_refl _)] at hr
      exact ⟨_, rfl, hr, HB.out⟩
end Go.Proofs.Ytnmengoefpdaiaa
