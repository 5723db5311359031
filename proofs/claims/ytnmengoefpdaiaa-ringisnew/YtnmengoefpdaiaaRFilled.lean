/-
  the law's own filled.
-/
import Derived.Test.YtnmengoefpdaiaaRBegins
namespace Go.Proofs.Ytnmengoefpdaiaa
open Go.RowKit
set_option linter.unusedVariables false
set_option linter.unusedSimpArgs false

def opsI (i : Nat) : List OpT := [⟨i, ⟨#[47, 97]⟩, ⟨#[]⟩, 0, 0⟩, ⟨(i : Int) + 1, ⟨#[]⟩, ⟨#[]⟩, 0, 0⟩]
def enI (i : Nat) : EnT := ⟨i, ((i / 3 : Nat) : Int), 1, 5, i, opsI i⟩
def fR (room k : Nat) : RingT := ⟨room, k - room, k, (((k - room) / 3 : Nat) : Int), (List.range' (k - room + 1) (min k room)).map enI⟩
theorem fR_len (room k : Nat) : (fR room k).l.length = min k room := by simp [fR]
theorem fR_last (room k : Nat) : (fR room k).last = k := by
  show k - room + (fR room k).l.length = k
  rw [fR_len]
  omega
theorem fR_top (room k : Nat) (h : 1 ≤ room) : (fR room k).top = ((k / 3 : Nat) : Int) := by
  unfold RingT.top
  by_cases h0 : k = 0
  · subst h0
    simp [fR]
  · have h1 : (fR room k).l.getLast? = some (enI k) := by
      rw [List.getLast?_eq_getElem?, fR_len]
      simp only [fR, List.getElem?_map]
      rw [List.getElem?_range' (by omega)]
      simp only [Option.map_some]
      congr 2
      omega
    rw [h1]
    rfl
theorem fR_may (room k : Nat) (h : 1 ≤ room) (hk : k < 1000) : (fR room k).may (enI (k + 1)) = 0 := by
  unfold RingT.may
  rw [fR_last, fR_top room k h]
  have h1 : (enI (k + 1)).v = (((k + 1) / 3 : Nat) : Int) := rfl
  have h2 : (enI (k + 1)).s = ((k + 1 : Nat) : Int) := rfl
  rw [h1, h2, fR_len]
  have h3 : (fR room k).hold = k := rfl
  have h4 : (fR room k).floor = k - room := rfl
  have h5 : (fR room k).room = room := rfl
  rw [h3, h4, h5]
  rw [if_neg (by omega), if_neg (by omega), if_neg (by omega), if_neg (by omega)]
theorem fR_app (room k : Nat) (h : 1 ≤ room) : { (fR room k).app (enI (k + 1)) with hold := k + 1 } = fR room (k + 1) := by
  unfold RingT.app
  rw [fR_len]
  have h5 : (fR room k).room = room := rfl
  rw [h5]
  by_cases hf : min k room = room
  · rw [if_pos hf]
    have hk : room ≤ k := by omega
    obtain ⟨r, rfl⟩ : ∃ r, room = r + 1 := ⟨room - 1, by omega⟩
    have hl : (fR (r + 1) k).l = enI (k - (r + 1) + 1) :: (List.range' (k - (r + 1) + 1 + 1) r).map enI := by
      simp only [fR]
      rw [hf, List.range'_succ, List.map_cons]
    have e1 : k + 1 - (r + 1) = k - (r + 1) + 1 := by omega
    have e2 : min (k + 1) (r + 1) = r + 1 := by omega
    rw [hl]
    simp only [fR, e1, e2, List.head?_cons, Option.map_some, Option.getD_some, List.tail_cons]
    congr 1
    rw [List.range'_concat, List.map_append]
    congr 1
    simp
    congr 1
    omega
  · rw [if_neg hf]
    have hk : k < room := by omega
    have e0 : k - room = 0 := by omega
    have e1 : k + 1 - room = 0 := by omega
    have e2 : min (k + 1) room = min k room + 1 := by omega
    simp only [fR, e0, e1, e2]
    congr 1
    rw [List.range'_concat, List.map_append]
    congr 1
    simp
    congr 1
    omega
theorem fR_free (room k : Nat) (h : 1 ≤ room) : ((fR room k).app (enI (k + 1))).free ((k + 1 : Nat) : Int) = 0 := by
  have h1 := congrArg RingT.floor (fR_app room k h)
  have h2 := congrArg (fun R => R.l.length) (fR_app room k h)
  have h3 : ((fR room k).app (enI (k + 1))).hold = k := by unfold RingT.app; split <;> rfl
  have h4 : ((fR room k).app (enI (k + 1))).last = k + 1 := by
    show ((fR room k).app (enI (k + 1))).floor + ((fR room k).app (enI (k + 1))).l.length = k + 1
    simp only at h1 h2
    rw [h1, h2, fR_len]
    show k + 1 - room + _ = _
    omega
  unfold RingT.free
  rw [h3, h4, if_neg (by omega), if_neg (by omega)]
theorem opsI_small (i : Nat) : (enI i).Small := by
  refine ⟨by show 2 * 56 ≤ 140737488355328; decide, fun o ho => ?_⟩
  have : o ∈ opsI i := ho
  simp only [opsI, List.mem_cons, List.not_mem_nil, or_false] at this
  rcases this with rfl | rfl
  · exact ⟨by show (ByteArray.mk #[47, 97]).size ≤ _; decide, by show (ByteArray.mk #[]).size ≤ _; decide⟩
  · exact ⟨by show (ByteArray.mk #[]).size ≤ _; decide, by show (ByteArray.mk #[]).size ≤ _; decide⟩
theorem new_filled (room : Nat) (h : 1 ≤ room) (h2 : room ≤ 64) : newC (room : Int) 0 0 = 0 ∧ newR (room : Int) 0 0 = fR room 0 := by
  refine ⟨?_, ?_⟩
  · unfold newC
    rw [if_neg (by omega), if_pos (by decide)]
  · have e0 : 0 - room = 0 := by omega
    simp [newR, fR]
theorem append_fill (b room q : Nat) (t : Int) (w0 w : World) (hb : Below w0.heap.size w0 w) (hlo : w0.heap.size ≤ b) (h : RingAt w b (fR room q)) (h1 : 1 ≤ room) (hq : q < 1000) (ht : (((q + 1) / 3 : Nat) : Int) = t) :
    Calls Try.prog 15 #[.pointer (some ⟨b, 0, none⟩), .agg #[.int .i64 ((q : Int) + 1), .int .i64 t, .int .i64 1, .int .i64 5, .int .i64 ((q : Int) + 1), .slice (some ⟨w.heap.size, 0, none⟩) 2 2]]
      (w.alloc (.cells #[.int .i64 ((q : Int) + 1), .string ⟨#[47, 97]⟩, .string ⟨#[]⟩, .int .i64 0, .int .i64 0, .int .i64 ((q : Int) + 1 + 1), .string ⟨#[]⟩, .string ⟨#[]⟩, .int .i64 0, .int .i64 0] 49)) fun e' w' => e' = .returned (.int .i64 0) ∧ RingAt w' b ((fR room q).app (enI (q + 1))) ∧ Below w0.heap.size w0 w' := by
  have hb2 : Below w0.heap.size w0 (w.alloc (.cells #[.int .i64 ((q : Int) + 1), .string ⟨#[47, 97]⟩, .string ⟨#[]⟩, .int .i64 0, .int .i64 0, .int .i64 ((q : Int) + 1 + 1), .string ⟨#[]⟩, .string ⟨#[]⟩, .int .i64 0, .int .i64 0] 49)) := hb.alloc hb.size _
  have hos : Os (w.alloc (.cells #[.int .i64 ((q : Int) + 1), .string ⟨#[47, 97]⟩, .string ⟨#[]⟩, .int .i64 0, .int .i64 0, .int .i64 ((q : Int) + 1 + 1), .string ⟨#[]⟩, .string ⟨#[]⟩, .int .i64 0, .int .i64 0] 49)) (some ⟨w.heap.size, 0, none⟩) (enI (q + 1)).ops := by
    refine .inr ⟨w.heap.size, 0, rfl, by simp, fun i o hi j x hx => ?_⟩
    rw [cell_blk (heap_alloc_new _ _), Nat.zero_add]
    have hi' : (opsI (q + 1))[i]? = some o := hi
    have hj5 : j < 5 := (List.getElem?_eq_some_iff.1 hx).1
    match i, hi' with
    | 0, hi' =>
      simp only [opsI, List.getElem?_cons_zero, Option.some.injEq] at hi'
      subst hi'
      match j, hx with
      | 0, hx => exact hx
      | 1, hx => exact hx
      | 2, hx => exact hx
      | 3, hx => exact hx
      | 4, hx => exact hx
    | 1, hi' =>
      simp only [opsI, List.getElem?_cons_succ, List.getElem?_cons_zero, Option.some.injEq] at hi'
      subst hi'
      match j, hx with
      | 0, hx => exact hx
      | 1, hx => exact hx
      | 2, hx => exact hx
      | 3, hx => exact hx
      | 4, hx => exact hx
    | i + 2, hi' => simp [opsI] at hi'
  have hlt := h.lt
  have key := append_any (some ⟨b, 0, none⟩) (fR room q) (enI (q + 1)) (some ⟨w.heap.size, 0, none⟩) 2 2 _ (.inr ⟨b, rfl, h.below ((Below.refl _ _).alloc (Nat.le_refl _) _)⟩) rfl hos (fun b' o' hh => by cases hh; intro e; cases e; omega) (opsI_small _)
  rw [fR_may room q h1 hq, if_pos rfl] at key
  subst ht
  refine key.mono ?_
  rintro e' w' ⟨rfl, hs⟩
  refine ⟨rfl, ?_, hb2.trans (hs.chg.below hb2.size (fun k _ e => by cases e; exact hlo))⟩
  rcases hs.rp with ⟨h0, _⟩ | ⟨b', h0, hr⟩
  · cases h0
  · cases h0
    exact hr
set_option maxHeartbeats 3200000 in
set_option maxRecDepth 100000 in
theorem filled_any (room n : Nat) (w : World) (h1 : 1 ≤ room) (h2 : room ≤ 64) (hn : n ≤ 200) : Calls Try.prog 5 #[.int .i64 room, .int .i64 n] w fun e w' => ∃ b, e = .returned (.pointer (some ⟨b, 0, none⟩)) ∧ w.heap.size ≤ b ∧ RingAt w' b (fR room n) ∧ Below w.heap.size w w' := by
  have HN0 : Hid _ := new_any (room : Int) 0 0 w
  rw [(new_filled room h1 h2).1, (new_filled room h1 h2).2] at HN0
  go_enter Try.func5, Try.ntmps5
  go_wp2_with fail
  refine Calls.mono HN0.out ?_
  rintro e w1 ⟨p, rfl, hb1, hk1⟩
  obtain ⟨b, rfl, hlo, hr1⟩ : ∃ b, p = some ⟨b, 0, none⟩ ∧ w.heap.size ≤ b ∧ RingAt w1 b (fR room 0) := by
    rcases hk1 with ⟨h, _⟩ | ⟨_, h⟩
    · exact absurd rfl h
    · exact h
  have HR1 : Hid (RingAt w1 b (fR room 0)) := hr1
  have HB1 : Hid (Below w.heap.size w w1) := hb1
  have HLO : Hid (w.heap.size ≤ b) := hlo
  clear hk1 hr1 hb1 hlo HN0
  go_wp2_with fail
  go_loopw [7] (fun i wr => ∃ q : Nat, i = .int .i64 ((q : Int) + 1) ∧ q ≤ n ∧ Hid (RingAt wr b (fR room q)) ∧ Hid (Below w.heap.size w wr)) (fun i _ => n + 1 - (intOf i).toNat)
  case atStart => exact ⟨0, rfl, Nat.zero_le _, HR1, HB1⟩
  case round =>
    obtain ⟨q, rfl, hq, HR, HB⟩ := hrel
    by_cases hlt : q < n
    · have hlt' : (q : Int) + 1 ≤ (n : Int) := by omega
      have hdiv : Int.tdiv ((q : Int) + 1) 3 = (((q + 1) / 3 : Nat) : Int) := by
        rw [Int.tdiv_eq_ediv_of_nonneg (by omega)]; rfl
      have hdiv' : ((q : Int) + 1) / 3 = (((q + 1) / 3 : Nat) : Int) := rfl
      obtain ⟨t, ht⟩ : ∃ t, (((q + 1) / 3 : Nat) : Int) = t := ⟨_, rfl⟩
      rw [ht] at hdiv hdiv'
      have HT : Hid ((((q + 1) / 3 : Nat) : Int) = t) := ht
      clear ht
      go_wp2_with fail
      refine Calls.mono (append_fill b room q t w wr HB.out HLO.out HR.out h1 (by omega) HT.out) ?_
      rintro e' w3 ⟨rfl, hr3, hb3⟩
      have HR3 : Hid (RingAt w3 b ((fR room q).app (enI (q + 1)))) := hr3
      have HB3 : Hid (Below w.heap.size w w3) := hb3
      clear hr3 hb3
      go_wp2_with fail
      refine Calls.mono (hold_at b ((fR room q).app (enI (q + 1))) (fR room (q + 1)) ((q : Int) + 1) 0 w w3 HB3.out HLO.out HR3.out (fR_free room q h1) (by rw [if_pos rfl, ← fR_app room q h1]; congr 1)) ?_
      rintro e' w4 ⟨rfl, hr4, hb4⟩
      have HR4 : Hid (RingAt w4 b (fR room (q + 1))) := hr4
      have HB4 : Hid (Below w.heap.size w w4) := hb4
      clear hr4 hb4
      go_wp2_with fail
      go_roundw
      case rel => exact ⟨q + 1, by go_num, by omega, HR4, HB4⟩
      case measure => simp [intOf]; omega
    · obtain rfl : q = n := by omega
      go_wp2_with fail
      go_ret
      exact ⟨b, rfl, HLO.out, HR.out, HB.out⟩
end Go.Proofs.Ytnmengoefpdaiaa
