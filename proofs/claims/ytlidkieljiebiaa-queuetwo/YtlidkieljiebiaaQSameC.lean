/-
  queue: the law's own comparison of changes that are the same.
-/
import Derived.Test.YtlidkieljiebiaaQSame
namespace Go.Proofs.Ytlidkieljiebiaa
open Go.RowKit
set_option linter.unusedVariables false
set_option linter.unusedSimpArgs false

set_option maxHeartbeats 3200000 in
set_option maxRecDepth 100000 in
theorem changes_same (v v' : Value) (l : List TgT) (w : World) (S S' : Nat → Prop) (h : TgsAt w S v l) (h' : TgsAt w S' v' l) (hl : TgsSmall l) :
    Calls Try.prog 43 #[v, v'] w fun e w' => e = .returned (.bool true) ∧ Below w.heap.size w w' := by
  obtain ⟨a, c, rfl, hc⟩ := RowAt.form h
  obtain ⟨a', c', rfl, hc'⟩ := RowAt.form h'
  obtain ⟨n, hn⟩ : ∃ n, l.length = n := ⟨_, rfl⟩
  have hn1 : n ≤ 140737488355328 := by have := hl.len; unfold MaxRow at this; omega
  have HS : Hid (TgsSmall l) := hl
  rw [hn] at h h' ⊢
  have HN : Hid (l.length = n) := hn
  have H1 : Hid (TgsAt w S (.slice a n c) l) := h
  have H2 : Hid (TgsAt w S' (.slice a' n c') l) := h'
  clear h h' hn hl hc hc'
  go_enter Try.func43, Try.ntmps43
  go_wp2_with fail
  go_loopw [5] (fun i wr => ∃ q : Nat, i = .int .i64 q ∧ q ≤ n ∧ Hid (Below w.heap.size w wr)) (fun i _ => n - (intOf i).toNat)
  case atStart => exact ⟨0, rfl, Nat.zero_le _, Below.refl _ _⟩
  case round =>
    obtain ⟨q, rfl, hq, HB⟩ := hrel
    by_cases hlt : q < n
    · have hqi : (q : Int) < (n : Int) := by omega
      obtain ⟨x, hx⟩ : ∃ x, l[q]? = some x := ⟨l[q]'(by rw [HN.out]; exact hlt), List.getElem?_eq_getElem _⟩
      obtain ⟨b, o, rfl, _, hb, u, e1⟩ := RowAt.get (TgsAt.keep H1.out (Kp.of_below HB.out _)) hx
      obtain ⟨b', o', rfl, _, hb', u', e2⟩ := RowAt.get (TgsAt.keep H2.out (Kp.of_below HB.out _)) hx
      obtain ⟨x0, x1, x2, x3, x4, xt⟩ := e1
      obtain ⟨y0, y1, y2, y3, y4, yt⟩ := e2
      have HI : Hid (∀ w', Below wr.heap.size wr w' → _) := fun w' hb => ints_same u u' x.tags w' S S' (IntsAt.keep xt (Kp.of_below hb _)) (IntsAt.keep yt (Kp.of_below hb _)) (by have := (HS.out.each x (List.mem_of_getElem? hx)).len; unfold MaxRow at *; omega)
      clear hx xt yt
      go_wp2_with fail
      go_region_held3 (fun w' => w'.cell? ⟨b, o + q * 5, none⟩ = some (.int .i64 x.k) ∧ w'.cell? ⟨b, o + q * 5 + 1, none⟩ = some (.string x.p) ∧ w'.cell? ⟨b, o + q * 5 + 2, none⟩ = some (.string x.d) ∧ w'.cell? ⟨b, o + q * 5 + 3, none⟩ = some (.int .i64 x.v) ∧ w'.cell? ⟨b, o + q * 5 + 4, none⟩ = some u ∧ w'.cell? ⟨b', o' + q * 5, none⟩ = some (.int .i64 x.k) ∧ w'.cell? ⟨b', o' + q * 5 + 1, none⟩ = some (.string x.p) ∧ w'.cell? ⟨b', o' + q * 5 + 2, none⟩ = some (.string x.d) ∧ w'.cell? ⟨b', o' + q * 5 + 3, none⟩ = some (.int .i64 x.v) ∧ w'.cell? ⟨b', o' + q * 5 + 4, none⟩ = some u')
        (first | (simp only [World.cell?_drew, World.cell?_drewN, x0, x1, x2, x3, x4, y0, y1, y2, y3, y4, and_self]; done) | fail)
        (first
        | (go_at_call 67; refine (HI.out _ (by first | exact below_drewN (Below.refl _ _) _ | exact below_drew (Below.refl _ _) | exact Below.refl _ _)).mono ?_
           rintro e w8 ⟨rfl, hb8⟩
           have HB8 : Hid (Below w.heap.size w w8) := (by first | exact trans2 (below_drewN HB.out _) hb8 | exact trans2 (below_drew HB.out) hb8 | exact trans2 HB.out hb8)
           have hq8 : ∀ k o v, k < wr.heap.size → wr.cell? ⟨k, o, none⟩ = some v → w8.cell? ⟨k, o, none⟩ = some v := fun k o v hk hv => by rw [hb8.cell (p := ⟨k, o, none⟩) hk]; exact hv
           have x0 := hq8 _ _ _ hb x0
           have x1 := hq8 _ _ _ hb x1
           have x2 := hq8 _ _ _ hb x2
           have x3 := hq8 _ _ _ hb x3
           have x4 := hq8 _ _ _ hb x4
           have y0 := hq8 _ _ _ hb' y0
           have y1 := hq8 _ _ _ hb' y1
           have y2 := hq8 _ _ _ hb' y2
           have y3 := hq8 _ _ _ hb' y3
           have y4 := hq8 _ _ _ hb' y4
           clear hb8 hq8))
      go_wp2_with fail
      go_roundw
      case rel => exact ⟨q + 1, by go_num, by omega, by first | exact HB8.out | exact below_drewN HB8.out _ | exact below_drew HB8.out⟩
      case measure => simp [intOf]; omega
    · obtain rfl : q = n := by omega
      have hge : ¬ (q : Int) < (q : Int) := by omega
      go_wp2_with fail
      go_ret
      exact ⟨rfl, HB.out⟩
end Go.Proofs.Ytlidkieljiebiaa
