/-
  queue: the law's own comparison of items that are the same.
-/
import Derived.Test.YtlidkieljiebiaaQSameC
import Derived.Test.YtlidkieljiebiaaQSameP
namespace Go.Proofs.Ytlidkieljiebiaa
open Go.RowKit
set_option linter.unusedVariables false
set_option linter.unusedSimpArgs false

theorem ItsAt.keep {w w' : World} {S : Nat → Prop} {v : Value} {l : List ItT} (h : ItsAt w S v l) (hk : Kp w w' S) : ItsAt w' S v l :=
  RowAt.map h hk.size (fun _ _ h => h) (fun b o x hb hS ⟨u1, u2, hx⟩ => ⟨u1, u2, hx.keep hk (fun j v hj _ _ => hk.cell hb hS hj)⟩)
set_option maxHeartbeats 3200000 in
set_option maxRecDepth 100000 in
theorem items_same (v v' : Value) (l : List ItT) (w : World) (S S' : Nat → Prop) (h : ItsAt w S v l) (h' : ItsAt w S' v' l) (hl : l.length ≤ 32) (hs : ∀ t ∈ l, t.Small) :
    Calls Try.prog 22 #[v, v'] w fun e w' => e = .returned (.bool true) ∧ Below w.heap.size w w' := by
  obtain ⟨a, c, rfl, hc⟩ := RowAt.form h
  obtain ⟨a', c', rfl, hc'⟩ := RowAt.form h'
  obtain ⟨n, hn⟩ : ∃ n, l.length = n := ⟨_, rfl⟩
  have hn1 : n ≤ 32 := by omega
  have HS : Hid (∀ t ∈ l, t.Small) := hs
  rw [hn] at h h' ⊢
  have HN : Hid (l.length = n) := hn
  have H1 : Hid (ItsAt w S (.slice a n c) l) := h
  have H2 : Hid (ItsAt w S' (.slice a' n c') l) := h'
  clear h h' hn hl hc hc' hs
  go_enter Try.func22, Try.ntmps22
  go_wp2_with fail
  go_loopw [5] (fun i wr => ∃ q : Nat, i = .int .i64 q ∧ q ≤ n ∧ Hid (Below w.heap.size w wr)) (fun i _ => n - (intOf i).toNat)
  case atStart => exact ⟨0, rfl, Nat.zero_le _, Below.refl _ _⟩
  case round =>
    obtain ⟨q, rfl, hq, HB⟩ := hrel
    by_cases hlt : q < n
    · have hqi : (q : Int) < (n : Int) := by omega
      obtain ⟨x, hx⟩ : ∃ x, l[q]? = some x := ⟨l[q]'(by rw [HN.out]; exact hlt), List.getElem?_eq_getElem _⟩
      obtain ⟨b, o, rfl, _, hb, u1, u2, e1⟩ := RowAt.get (ItsAt.keep H1.out (Kp.of_below HB.out _)) hx
      obtain ⟨b', o', rfl, _, hb', v1, v2, e2⟩ := RowAt.get (ItsAt.keep H2.out (Kp.of_below HB.out _)) hx
      obtain ⟨x0, x1, x2, x3, x4, xc, xp⟩ := e1
      obtain ⟨y0, y1, y2, y3, y4, yc, yp⟩ := e2
      have hsm := HS.out x (List.mem_of_getElem? hx)
      have HC : Hid (∀ w', Below wr.heap.size wr w' → _) := fun w' hb => changes_same u1 v1 x.cs w' S S' (TgsAt.keep xc (Kp.of_below hb _)) (TgsAt.keep yc (Kp.of_below hb _)) hsm.cs
      have HP : Hid (∀ w', Below wr.heap.size wr w' → _) := fun w' hb => parts_same u2 v2 x.ps w' S S' (PasAt.keep xp (Kp.of_below hb _)) (PasAt.keep yp (Kp.of_below hb _)) hsm.ps
      clear hx xc yc xp yp hsm
      go_wp2_with fail
      simp only [List.append_eq, List.cons_append, List.nil_append]
      go_region_held3 (fun w' => w'.cell? ⟨b, o + q * 5, none⟩ = some (.int .i64 x.st) ∧ w'.cell? ⟨b, o + q * 5 + 1, none⟩ = some (.int .i64 x.af) ∧ w'.cell? ⟨b, o + q * 5 + 2, none⟩ = some (.bool x.mark) ∧ w'.cell? ⟨b, o + q * 5 + 3, none⟩ = some u1 ∧ w'.cell? ⟨b, o + q * 5 + 4, none⟩ = some u2 ∧ w'.cell? ⟨b', o' + q * 5, none⟩ = some (.int .i64 x.st) ∧ w'.cell? ⟨b', o' + q * 5 + 1, none⟩ = some (.int .i64 x.af) ∧ w'.cell? ⟨b', o' + q * 5 + 2, none⟩ = some (.bool x.mark) ∧ w'.cell? ⟨b', o' + q * 5 + 3, none⟩ = some v1 ∧ w'.cell? ⟨b', o' + q * 5 + 4, none⟩ = some v2)
        (first | (simp only [World.cell?_drew, World.cell?_drewN, x0, x1, x2, x3, x4, y0, y1, y2, y3, y4, and_self]; done) | fail)
        (first
        | (go_at_call 43; refine (HC.out _ (by first | exact below_drewN (Below.refl _ _) _ | exact below_drew (Below.refl _ _) | exact Below.refl _ _)).mono ?_
           rintro e w8 ⟨rfl, hb8⟩
           have HB8 : Hid (Below wr.heap.size wr w8) := (by first | exact trans2 (below_drewN (Below.refl _ _) _) hb8 | exact trans2 (below_drew (Below.refl _ _)) hb8 | exact hb8)
           have hq8 : ∀ k o v, k < wr.heap.size → wr.cell? ⟨k, o, none⟩ = some v → w8.cell? ⟨k, o, none⟩ = some v := fun k o v hk hv => by rw [HB8.out.cell (p := ⟨k, o, none⟩) hk]; exact hv
           have x0 := hq8 _ _ _ hb x0
           have x1 := hq8 _ _ _ hb x1
           have x2 := hq8 _ _ _ hb x2
           have x3 := hq8 _ _ _ hb x3
           have x4 := hq8 _ _ _ hb x4
           have y0 := hq8 _ _ _ hb' y0
           have y1 := hq8 _ _ _ hb' y1
           have y2 := hq8 _ _ _ hb' y2
           have y3 := hq8 _ _ _ hb' y3
           have y4 := hq8 _ _ _ hb' y4
           clear hb8 hq8)
        | (go_at_call 44; refine (HP.out _ HB8.out).mono ?_
           rintro e w9 ⟨rfl, hb9⟩
           have HB9 : Hid (Below w.heap.size w w9) := trans2 HB.out (trans2 HB8.out hb9)
           have hq9 : ∀ k o v, k < wr.heap.size → w8.cell? ⟨k, o, none⟩ = some v → w9.cell? ⟨k, o, none⟩ = some v := fun k o v hk hv => by rw [hb9.cell (p := ⟨k, o, none⟩) (Nat.lt_of_lt_of_le hk HB8.out.size)]; exact hv
           have x0 := hq9 _ _ _ hb x0
           have x1 := hq9 _ _ _ hb x1
           have x2 := hq9 _ _ _ hb x2
           have x3 := hq9 _ _ _ hb x3
           have x4 := hq9 _ _ _ hb x4
           have y0 := hq9 _ _ _ hb' y0
           have y1 := hq9 _ _ _ hb' y1
           have y2 := hq9 _ _ _ hb' y2
           have y3 := hq9 _ _ _ hb' y3
           have y4 := hq9 _ _ _ hb' y4
           clear hb9 hq9))
      go_wp2_with fail
      go_roundw
      case rel => exact ⟨q + 1, by go_num, by omega, by first | exact HB9.out | exact below_drewN HB9.out _ | exact below_drew HB9.out⟩
      case measure => simp [intOf]; omega
    · obtain rfl : q = n := by omega
      have hge : ¬ (q : Int) < (q : Int) := by omega
      go_wp2_with fail
      go_ret
      exact ⟨rfl, HB.out⟩
end Go.Proofs.Ytlidkieljiebiaa
