/-
  tree: the document's fixed answer (known).
-/
import Derived.Test.YtliafokjdngejaaGreatDoorTPlay3
import Derived.Test.YtliafokjdngejaaGreatDoorTNodes
import Derived.Laws.BytesArg
import Derived.WalkMore
namespace Go.Proofs.YtliafokjdngejaaGreatDoor
open Go.RowKit Go.Maps
set_option linter.unusedVariables false
set_option linter.unusedSimpArgs false

abbrev pA : ByteArray := ⟨#[47, 97]⟩
abbrev pR : ByteArray := ⟨#[47]⟩
abbrev dX : ByteArray := ⟨#[120]⟩
abbrev knownD : DataW Value := .map [(ky pR, .held (fuV pR ⟨#[]⟩ 0 0 0 0 0)), (ky pA, .held (fuV pA dX 0 1 1 0 0))]

theorem par_a : parB pA = pR := by kernel_rfl
theorem look_r : look rootD pR = fuV pR ⟨#[]⟩ 0 0 0 0 0 := by kernel_rfl
theorem look_a : look rootD pA = zf := by kernel_rfl
theorem has_r : Maps.has rootD (ky pR) = true := by kernel_rfl
theorem has_a : Maps.has rootD (ky pA) = false := by kernel_rfl
theorem mal_a : malC 5 1 pA dX 0 = 0 := by kernel_rfl
theorem put_d : (rootD.put (ky pR) (.held (fuV pR ⟨#[]⟩ 0 0 0 0 0))).put (ky pA) (.held (fuV pA dX 0 1 1 0 0)) = knownD := by kernel_rfl
theorem keys_d : strKeys knownD = [[47], [47, 97]] := by kernel_rfl
theorem mal_b {z : ByteArray} (hz : z.size = 65) : malC 0 2 ⟨#[47, 98]⟩ z 0 = 45 := by
  have h1 : (parse ⟨#[47, 98]⟩).1 = 0 := by kernel_rfl
  simp [malC, h1, hz]
theorem wf_d : WF knownD := by
  intro l hl
  rw [keys_d] at hl
  simp at hl
  rcases hl with rfl | rfl
  · exact ⟨by decide, pR, ⟨#[]⟩, 0, 0, 0, 0, 0, by kernel_rfl, by decide, by decide⟩
  · exact ⟨by decide, pA, dX, 0, 1, 1, 0, 0, by kernel_rfl, by decide, by decide⟩
theorem asc_d {ts : List (List UInt8)} (h : ts.Perm (strKeys knownD)) (ha : Asc ts) : ts = [[47], [47, 97]] := by
  rw [keys_d] at h
  have hl := h.length_eq
  match ts, hl with
  | [a, b], _ =>
    have hp := h
    have hm := h.mem_iff (a := a)
    have hm2 := h.mem_iff (a := b)
    simp at hm hm2
    have hn : ([a, b] : List (List UInt8)).Nodup := h.nodup_iff.2 (by decide)
    simp at hn
    unfold Asc at ha
    simp at ha
    rcases hm with rfl | rfl
    · rcases hm2 with rfl | rfl
      · exact absurd rfl hn
      · rfl
    · rcases hm2 with rfl | rfl
      · exact absurd (by decide) ha
      · exact absurd rfl hn

theorem form_n {w : World} {B e s n : Nat} {v : Value} {xs : List Value} (h : w.ownsRow B e s v n xs) (hn : 0 < n) : ∃ g cap, v = .slice (some ⟨g, 0, none⟩) n cap := by
  rcases h.2 with ⟨_, h0⟩ | ⟨g, cap, _, hv, _⟩
  · omega
  · exact ⟨g, cap, hv⟩
theorem cell_n {w : World} {B e s n g cap k : Nat} {xs : List Value} {x : Value} (h : w.ownsRow B e s (.slice (some ⟨g, 0, none⟩) n cap) n xs) (hx : xs[k]? = some x) : w.cell? ⟨g, k, none⟩ = some x := by
  have hk : k < xs.length := (List.getElem?_eq_some_iff.1 hx).1
  rcases h.2 with ⟨h0, _⟩ | ⟨g', cap', cur, hv, _, hg, _, _, hsz, ht⟩
  · cases h0
  · cases hv
    have hkc : k < n * s := by have := h.1; omega
    have : cur[k]? = some x := by
      rw [← hx, ← ht, List.getElem?_take_of_lt hkc, Array.getElem?_toList]
    unfold World.cell?
    simp only [hg]
    exact this
set_option maxHeartbeats 16000000 in
set_option maxRecDepth 100000 in
theorem knownT_any (w : World) (hg : GroundT w) :
    Calls Tryz.prog 14 #[] w fun e w' => e = .returned (.bool true) ∧ Below w.heap.size w w' := by
  have HG : Hid _ := hg
  obtain ⟨i1, hi, hz0, hz1, hz2⟩ := info_parts Tryz.info5
  obtain ⟨n, hn⟩ : ∃ n : Nat, n = 65 := ⟨_, rfl⟩
  have HN : Hid _ := hn
  have hL : (65 : Int) = (n : Int) := by rw [hn]; rfl
  have HL : Hid ((65 : Int) = (n : Int)) := hL
  clear hg hn hL
  go_enter Tryz.func14, Tryz.ntmps14
  go_wp2_with fail
  refine (new_any w).mono ?_
  rintro e w1 ⟨tb, mb, rfl, hT1, hb1⟩
  have HT1 : Hid _ := hT1
  have HB1 : Hid (Below w.heap.size w w1) := hb1
  have HBa : Hid (Below w1.heap.size w1 (w1.alloc (.cells #[.int .i64 1, .string pA, .string dX, .int .i64 0, .int .i64 0] 33))) := (Below.refl _ _).alloc (Nat.le_refl _) _
  have HPL : Hid _ := play1_make w.heap.size tb mb 1 w1.heap.size rootD 5 1 pA dX 0 pR ⟨#[]⟩ 0 0 0 0 ⟨#[]⟩ ⟨#[]⟩ 0 0 0 0 0 (w1.alloc (.cells #[.int .i64 1, .string pA, .string dX, .int .i64 0, .int .i64 0] 33)) (HG.out.below (trans2 hb1 HBa.out)) (hT1.below HBa.out) (heap_alloc_new _ _) mal_a (by rw [par_a]; exact look_r) (by rw [par_a]; exact has_r) look_a has_a (by decide) (by decide) (by decide) (by decide) (by decide) (by rw [par_a]; decide) (by decide) (by decide) (by decide) (by decide) (by decide)
  clear hT1 hb1
  go_wp2_with fail
  refine Calls.mono HPL.out ?_
  rintro e w2 ⟨g, cap, chV, mb2, rfl, hmb2, hT2, hrow2, hC2⟩
  rw [put_d] at hT2
  obtain ⟨gc, capc, rfl⟩ := form_n hrow2 (by decide)
  have HT2 : Hid (TreeAt w2 w.heap.size tb mb2 (1 + 1 + 1) knownD) := hT2
  have HRW2 : Hid _ := hrow2
  have HB2 : Hid (Below w.heap.size w w2) := (trans2 HB1.out HBa.out).trans (hC2.below (by have := HB1.out.size; simp; omega) (fun k _ e => by rw [e]; exact HT1.out.lo))
  have hs2 := HB2.out.size
  clear hT2 hrow2 hC2 hmb2
  go_wp2_with (first
    | (at_make; refine wpList_make_full _ rfl _ _ 86 rfl w2.heap.size 5 i1 (.int .u8 0) 1 Tryz.underlying86 hi hz0 hz1 .i64 .i64 65 65 n rfl rfl HL.out HL.out (by rw [hz2, HN.out]; decide) (by rw [HN.out]; decide) (by simp) ?_; intro w3 hown3 hgrow3; rw [World.size_alloc] at hown3; obtain ⟨z, hz, hconv⟩ := conv_zeros hown3; have HZ : Hid _ := hz; have HGr3 : Hid _ := hgrow3; clear hown3 hgrow3 hz)
    | fail)
  have HBb : Hid (Below w2.heap.size w2 w3) := ((Chg.alloc w2 _ (fun _ => False)).trans ((Chg.grown HGr3.out).mono (fun _ _ e => by cases e))).below (Nat.le_refl _) (fun _ _ h => h.elim)
  have hs3 := HBb.out.size
  have HRB3 : Hid (w3.heap[w2.heap.size]? = some (.cells #[.int .i64 1, .int .i64 0, .int .i64 0, .slice (some ⟨g, 0, none⟩) 1 cap] 28 (0, 0))) := by
    show _ = _
    rw [HGr3.out.block w2.heap.size (by simp) (fun e => by cases e)]; exact heap_alloc_new _ _
  have HBc : Hid (Below w3.heap.size w3 (w3.alloc (.cells #[.int .i64 2, .string ⟨#[47, 98]⟩, .string z, .int .i64 (-1), .int .i64 0] 33))) := (Below.refl _ _).alloc (Nat.le_refl _) _
  have HPM : Hid _ := play1_mal (k := 2) (by decide) (by decide) w.heap.size tb mb2 (1 + 1 + 1) w3.heap.size knownD 0 2 ⟨#[47, 98]⟩ z (-1) 0 (fun h => by omega) (w3.alloc (.cells #[.int .i64 2, .string ⟨#[47, 98]⟩, .string z, .int .i64 (-1), .int .i64 0] 33)) (HG.out.below (trans2 (trans2 HB2.out HBb.out) HBc.out)) ((HT2.out.below HBb.out).below HBc.out) (heap_alloc_new _ _) 45 (mal_b (by rw [HZ.out, HN.out])) (by decide) (by decide) (by decide) (by decide) (by decide)
  clear hconv
  refine Calls.mono HPM.out ?_
  rintro e w4 ⟨rfl, hb4⟩
  have HB34 : Hid (Below w3.heap.size w3 w4) := trans2 HBc.out hb4
  have HB4 : Hid (Below w.heap.size w w4) := trans2 (trans2 HB2.out HBb.out) HB34.out
  have HT4 : Hid _ := (HT2.out.below HBb.out).below HB34.out
  have HRB4 : Hid _ := kept_block HB34.out HRB3.out
  have HRW4 : Hid _ := owns_chg (owns_chg HRW2.out (Chg.of_below HBb.out (fun _ => False)) (fun _ _ => id)) (Chg.of_below HB34.out (fun _ => False)) (fun _ _ => id)
  clear hb4
  have HND : Hid _ := nodes_any w.heap.size tb mb2 (1 + 1 + 1) knownD (w4.alloc (.cells #[.int .i64 2, .int .i64 45, .int .i64 0, .slice none 0 0] 28)) (HT4.out.below ((Below.refl _ _).alloc (Nat.le_refl _) _)) (by decide) wf_d (by rw [keys_d]; decide)
  go_wp2_with (first
    | (go_at_call 12; go_in)
    | (go_at_call 16; refine Calls.mono HND.out ?_; rintro e w5 ⟨g5, cap5, ts, rfl, hp5, ha5, hr5, hb5⟩; obtain rfl := asc_d hp5 ha5
       have HB5 : Hid (Below w4.heap.size w4 w5) := trans2 ((Below.refl _ _).alloc (Nat.le_refl _) _) hb5
       have HR5 : Hid _ := hr5
       have HRB5 : Hid _ := kept_block HB5.out HRB4.out
       have HRW5 : Hid _ := owns_chg HRW4.out (Chg.of_below HB5.out (fun _ => False)) (fun _ _ => id)
       obtain ⟨b0, b1, b2, b3⟩ := cells_4 HRB5.out
       have hc1 : w5.cell? ⟨gc, 1, none⟩ = some (.string pA) := cell_n HRW5.out rfl
       have hc8 : w5.cell? ⟨g5, 8, none⟩ = some (.string dX) := cell_n HR5.out (by kernel_rfl)
       clear hp5 ha5 hr5 hb5)
    | fail)
  go_ret
  exact ⟨rfl, trans2 HB4.out HB5.out⟩
end Go.Proofs.YtliafokjdngejaaGreatDoor
