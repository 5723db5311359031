/-
  queue: the law's own comparison of parts that are the same.
-/
import Derived.Test.YtlidkieljiebiaaQSame
namespace Go.Proofs.Ytlidkieljiebiaa
open Go.RowKit
set_option linter.unusedVariables false
set_option linter.unusedSimpArgs false

theorem two_allocs {w : World} {t : TypeId} {x0 x1 x2 x3 y0 y1 y2 y3 : Value} : let W := (w.alloc (.cells #[x0, x1, x2, x3] t)).alloc (.cells #[y0, y1, y2, y3] t)
    (W.heap[w.heap.size]? = some (.cells #[x0, x1, x2, x3] t (0, 0)) ∧ W.heap[w.heap.size + 1]? = some (.cells #[y0, y1, y2, y3] t (0, 0))) ∧ Below w.heap.size w W :=
  ⟨⟨new_old (heap_alloc_new _ _) _, heap_new' (by simp)⟩, ((Below.refl _ _).alloc (Nat.le_refl _) _).alloc (by simp) _⟩
set_option maxHeartbeats 3200000 in
set_option maxRecDepth 100000 in
theorem parts_same (v v' : Value) (l : List PaT) (w : World) (S S' : Nat → Prop) (h : PasAt w S v l) (h' : PasAt w S' v' l) (hl : PasSmall l) :
    Calls Try.prog 44 #[v, v'] w fun e w' => e = .returned (.bool true) ∧ Below w.heap.size w w' := by
  obtain ⟨a, c, rfl, hc⟩ := RowAt.form h
  obtain ⟨a', c', rfl, hc'⟩ := RowAt.form h'
  obtain ⟨n, hn⟩ : ∃ n, l.length = n := ⟨_, rfl⟩
  have hn1 : n ≤ 140737488355328 := by have := hl.len; unfold MaxRow at this; omega
  have HS : Hid (PasSmall l) := hl
  rw [hn] at h h' ⊢
  have HN : Hid (l.length = n) := hn
  have H1 : Hid (PasAt w S (.slice a n c) l) := h
  have H2 : Hid (PasAt w S' (.slice a' n c') l) := h'
  clear h h' hn hl hc hc'
  go_enter Try.func44, Try.ntmps44
  go_wp2_with fail
  go_loopw [5] (fun i wr => ∃ q : Nat, i = .int .i64 q ∧ q ≤ n ∧ Hid (Below w.heap.size w wr)) (fun i _ => n - (intOf i).toNat)
  case atStart => exact ⟨0, rfl, Nat.zero_le _, Below.refl _ _⟩
  case round =>
    obtain ⟨q, rfl, hq, HB⟩ := hrel
    by_cases hlt : q < n
    · have hqi : (q : Int) < (n : Int) := by omega
      obtain ⟨x, hx⟩ : ∃ x, l[q]? = some x := ⟨l[q]'(by rw [HN.out]; exact hlt), List.getElem?_eq_getElem _⟩
      obtain ⟨b, o, rfl, _, hb, u, e1⟩ := RowAt.get (PasAt.keep H1.out (Kp.of_below HB.out _)) hx
      obtain ⟨b', o', rfl, _, hb', u', e2⟩ := RowAt.get (PasAt.keep H2.out (Kp.of_below HB.out _)) hx
      obtain ⟨x0, x1, x2, x3, x4, xt⟩ := e1
      obtain ⟨y0, y1, y2, y3, y4, yt⟩ := e2
      obtain ⟨na, nc, rfl, _⟩ := RowAt.form xt
      obtain ⟨na', nc', rfl, _⟩ := RowAt.form yt
      obtain ⟨m, hm⟩ : ∃ m, x.nodes.length = m := ⟨_, rfl⟩
      have hm1 : m ≤ 140737488355328 := by have := (HS.out.each x (List.mem_of_getElem? hx)).len; unfold MaxRow at this; omega
      rw [hm] at x4 y4 xt yt
      have HM : Hid (x.nodes.length = m) := hm
      have HX : Hid (SesAt wr S (.slice na m nc) x.nodes) := xt
      have HY : Hid (SesAt wr S' (.slice na' m nc') x.nodes) := yt
      clear hx xt yt hm
      go_wp2_with fail
      obtain ⟨⟨hA, hB⟩, hbel⟩ := two_allocs (w := wr) (t := 94) (x0 := .int .i64 x.st) (x1 := .string x.p) (x2 := .int .i64 x.k) (x3 := .slice na m nc) (y0 := .int .i64 x.st) (y1 := .string x.p) (y2 := .int .i64 x.k) (y3 := .slice na' m nc')
      generalize ((wr.alloc (.cells #[.int .i64 x.st, .string x.p, .int .i64 x.k, .slice na m nc] 94)).alloc (.cells #[.int .i64 x.st, .string x.p, .int .i64 x.k, .slice na' m nc'] 94)) = W at hA hB hbel ⊢
      obtain ⟨a0, a1, a2, a3⟩ := cells_4 hA
      obtain ⟨b0, b1, b2, b3⟩ := cells_4 hB
      have x0 : W.cell? ⟨b, o + q * 5, none⟩ = some (.int .i64 x.id) := by rw [hbel.cell (p := ⟨b, o + q * 5, none⟩) hb]; exact x0
      have y0 : W.cell? ⟨b', o' + q * 5, none⟩ = some (.int .i64 x.id) := by rw [hbel.cell (p := ⟨b', o' + q * 5, none⟩) hb']; exact y0
      have HBW : Hid (Below w.heap.size w W) := trans2 HB.out hbel
      have HXW : Hid (SesAt W S (.slice na m nc) x.nodes) := SesAt.keep HX.out (Kp.of_below hbel _)
      have HYW : Hid (SesAt W S' (.slice na' m nc') x.nodes) := SesAt.keep HY.out (Kp.of_below hbel _)
      obtain ⟨g1, hg1⟩ : ∃ g, wr.heap.size = g := ⟨_, rfl⟩
      rw [hg1] at a0 a1 a2 a3 b0 b1 b2 b3 ⊢
      obtain ⟨g2, hg2⟩ : ∃ g, g1 + 1 = g := ⟨_, rfl⟩
      rw [hg2] at b0 b1 b2 b3 ⊢
      clear hg1 hg2 hA hB hbel HX HY x1 x2 x3 x4 y1 y2 y3 y4 HB
      go_region_held3 (fun w' => w'.cell? ⟨b, o + q * 5, none⟩ = some (.int .i64 x.id) ∧ w'.cell? ⟨b', o' + q * 5, none⟩ = some (.int .i64 x.id) ∧ w'.cell? ⟨g1, 0, none⟩ = some (.int .i64 x.st) ∧ w'.cell? ⟨g1, 1, none⟩ = some (.string x.p) ∧ w'.cell? ⟨g1, 2, none⟩ = some (.int .i64 x.k) ∧ w'.cell? ⟨g1, 3, none⟩ = some (.slice na m nc) ∧ w'.cell? ⟨g2, 0, none⟩ = some (.int .i64 x.st) ∧ w'.cell? ⟨g2, 1, none⟩ = some (.string x.p) ∧ w'.cell? ⟨g2, 2, none⟩ = some (.int .i64 x.k) ∧ w'.cell? ⟨g2, 3, none⟩ = some (.slice na' m nc'))
        (first | (simp only [World.cell?_drew, World.cell?_drewN, x0, y0, a0, a1, a2, a3, b0, b1, b2, b3, and_self]; done) | fail) (fail)
      go_wp2_with fail
      obtain ⟨qo, hqo⟩ : ∃ qo, q = qo := ⟨_, rfl⟩
      rw [hqo] at hlt hqi ⊢
      have HLT : Hid (qo < n) := hlt
      have HQO : Hid (q = qo) := hqo
      clear hqo x0 y0 hb hb'
      have c3 : W.drew.cell? ⟨g1, 3, none⟩ = some (.slice na m nc) := a3
      have d3 : W.drew.cell? ⟨g2, 3, none⟩ = some (.slice na' m nc') := b3
      clear a0 a1 a2 a3 b0 b1 b2 b3
      go_loopw [8] (fun k wk => ∃ j : Nat, k = .int .i64 j ∧ j ≤ m ∧ Hid (∃ z, wk = W.drewN z)) (fun k _ => m - (intOf k).toNat)
      case atStart => exact ⟨0, rfl, Nat.zero_le _, ⟨1, rfl⟩⟩
      case round =>
        obtain ⟨j, rfl, hj, ⟨z, hz⟩⟩ := hrel
        subst hz
        have c3 : (W.drewN z).cell? ⟨g1, 3, none⟩ = some (.slice na m nc) := c3
        have d3 : (W.drewN z).cell? ⟨g2, 3, none⟩ = some (.slice na' m nc') := d3
        by_cases hjl : j < m
        · have hji : (j : Int) < (m : Int) := by omega
          obtain ⟨s, hs⟩ : ∃ s, x.nodes[j]? = some s := ⟨x.nodes[j]'(by rw [HM.out]; exact hjl), List.getElem?_eq_getElem _⟩
          obtain ⟨f, p, rfl, _, hf, e1⟩ := RowAt.get (SesAt.keep HXW.out (Kp.of_below (below_drewN (Below.refl _ _) z) _)) hs
          obtain ⟨f', p', rfl, _, hf', e2⟩ := RowAt.get (SesAt.keep HYW.out (Kp.of_below (below_drewN (Below.refl _ _) z) _)) hs
          obtain ⟨s0, s1, s2⟩ := e1
          obtain ⟨t0, t1, t2⟩ := e2
          clear hs hf hf'
          go_wp2_with fail
          go_region_held3 (fun w' => w'.cell? ⟨g1, 3, none⟩ = some (.slice (some ⟨f, p, none⟩) m nc) ∧ w'.cell? ⟨g2, 3, none⟩ = some (.slice (some ⟨f', p', none⟩) m nc') ∧ w'.cell? ⟨f, p + j * 3, none⟩ = some (.string s.p) ∧ w'.cell? ⟨f, p + j * 3 + 1, none⟩ = some (.string s.d) ∧ w'.cell? ⟨f, p + j * 3 + 2, none⟩ = some (.int .i64 s.v) ∧ w'.cell? ⟨f', p' + j * 3, none⟩ = some (.string s.p) ∧ w'.cell? ⟨f', p' + j * 3 + 1, none⟩ = some (.string s.d) ∧ w'.cell? ⟨f', p' + j * 3 + 2, none⟩ = some (.int .i64 s.v))
            (first | (simp only [World.cell?_drew, World.cell?_drewN] at *; simp only [c3, d3, s0, s1, s2, t0, t1, t2, and_self]; done) | (simp only [World.cell?_drew, c3, d3, s0, s1, s2, t0, t1, t2, and_self]; done) | fail) (fail)
          go_wp2_with fail
          go_roundw
          case rel => exact ⟨j + 1, by go_num, by omega, ⟨z + 1, rfl⟩⟩
          case measure => simp [intOf]; omega
        · obtain rfl : j = m := by omega
          have hge : ¬ (j : Int) < (j : Int) := by omega
          go_wp2_with fail
          go_roundw
          case rel => exact ⟨qo + 1, by go_num, by have := HLT.out; omega, below_drewN HBW.out _⟩
          case measure => have := HLT.out; have := HQO.out; simp [intOf]; omega
    · obtain rfl : q = n := by omega
      have hge : ¬ (q : Int) < (q : Int) := by omega
      go_wp2_with fail
      go_ret
      exact ⟨rfl, HB.out⟩
end Go.Proofs.Ytlidkieljiebiaa
