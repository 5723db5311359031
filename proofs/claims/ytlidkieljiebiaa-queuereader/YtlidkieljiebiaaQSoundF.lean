/-
  queue: the law's sound.
-/
import Derived.Test.YtlidkieljiebiaaQSoundP
import Derived.Test.YtlidkieljiebiaaQSameI
namespace Go.Proofs.Ytlidkieljiebiaa
open Go.RowKit
set_option linter.unusedVariables false
set_option linter.unusedSimpArgs false

set_option maxHeartbeats 3200000 in
set_option maxRecDepth 100000 in
theorem sound_any (v : Value) (l : List ItT) (room : Int) (last : Nat) (w : World) (S : Nat → Prop) (h : ItsAt w S v l) (hs : Snd last l) (hr : (l.length : Int) ≤ room) (hl : l.length ≤ 32) :
    Calls Try.prog 21 #[v, .int .i64 room, .int .i64 last] w fun e w' => e = .returned (.bool true) ∧ Below w.heap.size w w' := by
  obtain ⟨a, c, rfl, hc⟩ := RowAt.form h
  obtain ⟨n, hn⟩ : ∃ n, l.length = n := ⟨_, rfl⟩
  rw [hn] at h hr hl ⊢
  have HN : Hid (l.length = n) := hn
  have H1 : Hid (ItsAt w S (.slice a n c) l) := h
  have HS : Hid (Snd last l) := hs
  have hr' : ¬ room < (n : Int) := by omega
  clear h hs hn hc hr
  go_enter Try.func21, Try.ntmps21
  go_wp2_with fail
  go_loopw [7] (fun i wr => ∃ q : Nat, i = .int .i64 q ∧ q ≤ n ∧ Hid (Below w.heap.size w wr)) (fun i _ => n - (intOf i).toNat)
  case atStart => exact ⟨0, rfl, Nat.zero_le _, Below.refl _ _⟩
  case round =>
    obtain ⟨q, rfl, hq, HB⟩ := hrel
    by_cases hlt : q < n
    · have hqi : (q : Int) < (n : Int) := by omega
      obtain ⟨x, hx⟩ : ∃ x, l[q]? = some x := ⟨l[q]'(by rw [HN.out]; exact hlt), List.getElem?_eq_getElem _⟩
      obtain ⟨b, o, rfl, _, hb, u1, u2, e1⟩ := RowAt.get (ItsAt.keep H1.out (Kp.of_below HB.out _)) hx
      obtain ⟨x0, x1, x2, x3, x4, xc, xp⟩ := e1
      obtain ⟨ca, cc, rfl, _⟩ := RowAt.form xc
      obtain ⟨pa, pc, rfl, _⟩ := RowAt.form xp
      have hg := HS.out.each x (List.mem_of_getElem? hx)
      have HG : Hid ((x.mark = false → x.cs.length ≠ 0 ∧ x.ps.length = 0) ∧ (x.mark = true → x.cs.length = 0 ∧ x.ps.length ≠ 0)) := ⟨fun e => ⟨fun e' => (hg.ev e).1 (List.eq_nil_of_length_eq_zero e'), by rw [(hg.ev e).2]; rfl⟩, fun e => ⟨by rw [(hg.ma e).1]; rfl, fun e' => (hg.ma e).2 (List.eq_nil_of_length_eq_zero e')⟩⟩
      have hup : ¬ x.st ≤ x.af := by have := hg.up; omega
      have dup : decide (x.st ≤ x.af) = false := by simpa using hup
      have HPRE : Hid (∀ m, q = m + 1 → ∃ t, l[m]? = some t ∧ t.st ≤ x.af ∧ t.st < x.st) := by
        intro m hm
        obtain ⟨t, ht⟩ : ∃ t, l[m]? = some t := ⟨l[m]'(by rw [HN.out]; omega), List.getElem?_eq_getElem _⟩
        have := HS.out.next m t x ht (by rw [← hm]; exact hx)
        exact ⟨t, ht, this, by have := hg.up; omega⟩
      clear hx hg xc xp
      obtain ⟨cn, hcn⟩ : ∃ z, x.cs.length = z := ⟨_, rfl⟩
      obtain ⟨pn, hpn⟩ : ∃ z, x.ps.length = z := ⟨_, rfl⟩
      rw [hcn] at HG x3
      rw [hpn] at HG x4
      clear hcn hpn
      obtain ⟨mk, hmk⟩ : ∃ m, x.mark = m := ⟨_, rfl⟩
      rw [hmk] at x2 HG
      have hcase : (mk = true ∧ cn = 0 ∧ pn ≠ 0) ∨ (mk = false ∧ cn ≠ 0 ∧ pn = 0) := by
        cases mk with
        | true => exact .inl ⟨rfl, HG.out.2 rfl⟩
        | false => exact .inr ⟨rfl, HG.out.1 rfl⟩
      clear hmk HG
      go_wp2_with fail
      obtain ⟨W, hW⟩ : ∃ W, wr.alloc (.cells #[.int .i64 x.st, .int .i64 x.af, .bool mk, .slice ca cn cc, .slice pa pn pc] 42) = W := ⟨_, rfl⟩
      have hA : W.heap[wr.heap.size]? = some (.cells #[.int .i64 x.st, .int .i64 x.af, .bool mk, .slice ca cn cc, .slice pa pn pc] 42 (0, 0)) := by rw [← hW]; exact heap_alloc_new _ _
      have hbW : Below wr.heap.size wr W := by rw [← hW]; exact (Below.refl _ _).alloc (Nat.le_refl _) _
      rw [hW]
      obtain ⟨a0, a1, a2, a3, a4⟩ := cells_5 hA
      obtain ⟨g, hgz⟩ : ∃ g, wr.heap.size = g := ⟨_, rfl⟩
      rw [hgz] at a0 a1 a2 a3 a4 ⊢
      have HBW : Hid (Below w.heap.size w W) := trans2 HB.out hbW
      clear x0 x1 x2 x3 x4 hA hbW hgz hW hb HB
      by_cases hq0 : q = 0
      · subst hq0
        rcases hcase with ⟨rfl, rfl, hp⟩ | ⟨rfl, hp, rfl⟩
        · have hz : ((pn : Int) == 0) = false := by simp; omega
          clear hp
          go_quiet (fail)
          go_wp2_with fail
          go_roundw
          case rel => exact ⟨1, rfl, by omega, below_drewN HBW.out _⟩
          case measure => simp [intOf]; omega
        · have hz : ((cn : Int) == 0) = false := by simp; omega
          clear hp
          go_quiet (fail)
          go_wp2_with fail
          go_roundw
          case rel => exact ⟨1, rfl, by omega, below_drewN HBW.out _⟩
          case measure => simp [intOf]; omega
      · obtain ⟨m, hm⟩ : ∃ m, q = m + 1 := ⟨q - 1, by omega⟩
        obtain ⟨t, ht, ht1, ht2⟩ := HPRE.out m hm
        obtain ⟨b', o', hbo, _, _, v1, v2, e1⟩ := RowAt.get (ItsAt.keep H1.out (Kp.of_below HBW.out _)) ht
        cases hbo
        have t0 := e1.st
        clear e1 HPRE ht
        have hq1 : (0 : Int) < (q : Int) := by omega
        have hq2 : 0 < q := by omega
        have hq3 : IntKind.i64.wrap ((q : Int) - 1) = (m : Int) := by rw [IntKind.wrap_i64]; omega
        have hq4 : (m : Int) < (n : Int) := by omega
        have hq5 : m < n := by omega
        have hq6 : ¬ x.af < t.st := by omega
        have hq7 : ¬ x.st ≤ t.st := by omega
        have HQ : Hid (q = m + 1) := hm
        clear hm hq0 ht1 ht2
        rcases hcase with ⟨rfl, rfl, hp⟩ | ⟨rfl, hp, rfl⟩
        · have hz : ((pn : Int) == 0) = false := by simp; omega
          clear hp
          go_quiet (fail)
          go_wp2_with fail
          go_roundw
          case rel => exact ⟨q + 1, by go_num, by omega, below_drewN HBW.out _⟩
          case measure => simp [intOf]; omega
        · have hz : ((cn : Int) == 0) = false := by simp; omega
          clear hp
          go_quiet (fail)
          go_wp2_with fail
          go_roundw
          case rel => exact ⟨q + 1, by go_num, by omega, below_drewN HBW.out _⟩
          case measure => simp [intOf]; omega
    · obtain rfl : q = n := by omega
      have hge : ¬ (q : Int) < (q : Int) := by omega
      by_cases hq0 : q = 0
      · subst hq0
        go_wp2_with fail
        go_ret
        exact ⟨rfl, HB.out⟩
      · obtain ⟨m, hm⟩ : ∃ m, q = m + 1 := ⟨q - 1, by omega⟩
        obtain ⟨t, ht⟩ : ∃ t, l[m]? = some t := ⟨l[m]'(by rw [HN.out]; omega), List.getElem?_eq_getElem _⟩
        have hte : t.st = (last : Int) := HS.out.end_ t (by rw [HN.out, hm]; exact ht)
        obtain ⟨b, o, rfl, _, _, v1, v2, e1⟩ := RowAt.get (ItsAt.keep H1.out (Kp.of_below HB.out _)) ht
        have t0 := e1.st
        rw [hte] at t0
        have hz : ((q : Int) == 0) = false := by simp; omega
        have hq3 : IntKind.i64.wrap ((q : Int) - 1) = (m : Int) := by rw [IntKind.wrap_i64]; omega
        have hq4 : (m : Int) < (q : Int) := by omega
        have hq5 : m < q := by omega
        clear e1 ht hte hm hq0
        go_wp2_with fail
        go_ret
        exact ⟨by simp, HB.out⟩
end Go.Proofs.Ytlidkieljiebiaa
