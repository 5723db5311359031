/-
  belowRoot; the fixed answers of known.
-/
import Derived.Test.YtblhenblibdjoabDoorParse
import Derived.Test.YtblhenblibdjoabDoorTexts
import Derived.Laws.BytesArg
import Derived.WalkMore
import Derived.WalkSmall
namespace Go.Proofs.YtblhenblibdjoabDoor
open Go.RowKit

theorem parse_len {s : ByteArray} {c : Int} {xs : List ByteArray} (h : parse s = (c, xs)) : xs.length ≤ 6 ∧ xs.all isNm = true := by
  have hnil : ∀ {c' : Int}, (c', ([] : List ByteArray)) = (c, xs) → xs.length ≤ 6 ∧ xs.all isNm = true := by
    intro c' e
    cases e
    exact ⟨by simp, rfl⟩
  by_cases h0 : 102 < s.size
  · rw [parse_long h0] at h; exact hnil h
  by_cases h1 : s.data.toList = [47]
  · rw [parse_root h1] at h; exact hnil h
  by_cases h2 : ∃ l, s.data.toList = 47 :: l
  · obtain ⟨l, hl⟩ := h2
    rw [parse_yes h0 h1 hl] at h
    split at h
    · rename_i hh
      cases h
      exact ⟨by simpa using hh.1, hh.2⟩
    · exact hnil h
  · rw [parse_no h0 (fun l e => h2 ⟨l, e⟩)] at h; exact hnil h

theorem parse_code {s : ByteArray} {code : Int} {xs : List ByteArray} (h : parse s = (code, xs)) (hc : code ≠ 0) : xs = [] := by
  by_cases h0 : 102 < s.size
  · rw [parse_long h0] at h; cases h; rfl
  by_cases h1 : s.data.toList = [47]
  · rw [parse_root h1] at h; cases h; rfl
  by_cases h2 : ∃ l, s.data.toList = 47 :: l
  · obtain ⟨l, hl⟩ := h2
    rw [parse_yes h0 h1 hl] at h
    split at h
    · cases h; exact absurd rfl hc
    · cases h; rfl
  · rw [parse_no h0 (fun l e => h2 ⟨l, e⟩)] at h; cases h; rfl

theorem trans2 {w w1 w2 : World} (h1 : Below w.heap.size w w1) (h2 : Below w1.heap.size w1 w2) : Below w.heap.size w w2 := h1.trans (h2.mono h1.size)

theorem cell_of_block {w : World} {b k : Nat} {xs : List ByteArray} {x : ByteArray} (h : w.heap[b]? = some (.cells (xs.map Value.string).toArray 9 (0, 0))) (hx : xs[k]? = some x) : w.cell? ⟨b, k, none⟩ = some (.string x) := by
  have := strs_of_block h k x hx
  rwa [Nat.zero_add] at this

theorem belowRoot_err {s : ByteArray} {code : Int} (h : parse s = (code, [])) (hc : code ≠ 0) (w : World) (hg : Ground w) :
    Calls Tryd.prog 34 #[.string s] w fun e w' => e = .returned (.tuple #[.slice none 0 0, .int .i64 code]) ∧ Below w.heap.size w w' := by
  have HP : Hid _ := parse_none h
  have hc' : (code != 0) = true := by simpa using hc
  have HG : Hid (Ground w) := hg
  clear hg h
  go_enter Tryd.func34, Tryd.ntmps34
  go_wp2_with (first | (go_at_call 19; refine (HP.out _ HG.out).mono ?_; rintro e w1 ⟨rfl, hb⟩; have HB : Hid _ := hb; clear hb))
  go_ret2
  exact ⟨rfl, HB.out⟩
theorem belowRoot_root {s : ByteArray} (h : parse s = (0, [])) (w : World) (hg : Ground w) :
    Calls Tryd.prog 34 #[.string s] w fun e w' => e = .returned (.tuple #[.slice none 0 0, .int .i64 47]) ∧ Below w.heap.size w w' := by
  have HP : Hid _ := parse_none h
  have HG : Hid (Ground w) := hg
  clear hg h
  go_enter Tryd.func34, Tryd.ntmps34
  go_wp2_with (first | (go_at_call 19; refine (HP.out _ HG.out).mono ?_; rintro e w1 ⟨rfl, hb⟩; have HB : Hid _ := hb; clear hb))
  go_ret2
  exact ⟨rfl, HB.out⟩
theorem belowRoot_some {s : ByteArray} {xs : List ByteArray} (h : parse s = (0, xs)) (hne : xs ≠ []) (w : World) (hg : Ground w) :
    Calls Tryd.prog 34 #[.string s] w fun e w' =>
      ∃ b, e = .returned (.tuple #[.slice (some ⟨b, 0, none⟩) xs.length xs.length, .int .i64 0]) ∧ w.heap.size ≤ b ∧ w'.heap[b]? = some (.cells (xs.map Value.string).toArray 9 (0, 0)) ∧ Below w.heap.size w w' := by
  have HP : Hid _ := parse_some h hne
  have HG : Hid (Ground w) := hg
  have hl : ((xs.length : Int) == 0) = false := by
    cases xs with
    | nil => exact absurd rfl hne
    | cons x xs => simp; omega
  clear hg h hne
  go_enter Tryd.func34, Tryd.ntmps34
  go_wp2_with (first | (go_at_call 19; refine (HP.out _ HG.out).mono ?_; rintro e w1 ⟨b, rfl, hle, hblk, hb⟩; have HB : Hid _ := hb; have HK : Hid _ := hblk; have HL : Hid _ := hle; clear hb hblk hle))
  go_ret2
  exact ⟨b, rfl, HL.out, HK.out, HB.out⟩

theorem clean_long {s : ByteArray} (h : 65536 < s.size) (w : World) :
    Calls Tryd.prog 10 #[.string s] w fun e w' => e = .returned (.tuple #[.string ⟨#[]⟩, .int .i64 2]) ∧ w' = w := by
  have h' : (65536 : Int) < (s.size : Int) := by omega
  go_enter Tryd.func10, Tryd.ntmps10
  go_wp2
  go_step3
  go_wp2
  try rw [Exit.noGoto_ret]
  go_ret2
  exact ⟨rfl, rfl⟩

theorem counted_root (n : Int) {s : ByteArray} (h : parse s = (0, [])) (w : World) (hg : Ground w) :
    Calls Tryd.prog 14 #[.string s, .int .i64 n] w fun e w' => e = .returned (.tuple #[.string ⟨#[]⟩, .int .i64 47]) ∧ Below w.heap.size w w' := by
  have HP : Hid _ := belowRoot_root h
  have HG : Hid (Ground w) := hg
  clear hg h
  go_enter Tryd.func14, Tryd.ntmps14
  go_wp2_with (first | (go_at_call 34; refine (HP.out _ HG.out).mono ?_; rintro e w1 ⟨rfl, hb⟩; have HB : Hid _ := hb; clear hb))
  go_ret2
  exact ⟨rfl, HB.out⟩

theorem counted_long (n : Int) {s : ByteArray} {xs : List ByteArray} (h : parse s = (0, xs)) (hne : xs ≠ []) (x : ByteArray) (hx : xs[xs.length - 1]? = some x) (hl : 11 < x.size) (w : World) (hg : Ground w) :
    Calls Tryd.prog 14 #[.string s, .int .i64 n] w fun e w' => e = .returned (.tuple #[.string ⟨#[]⟩, .int .i64 10]) ∧ Below w.heap.size w w' := by
  have HP : Hid _ := belowRoot_some h hne
  have HG : Hid (Ground w) := hg
  obtain ⟨k, hk⟩ : ∃ k, xs.length = k + 1 := ⟨xs.length - 1, by cases xs with | nil => exact absurd rfl hne | cons y ys => simp⟩
  have HX : Hid (xs[k]? = some x) := by rw [hk] at hx; exact hx
  have hl' : (11 : Int) < (x.size : Int) := by omega
  have hkm : k ≤ 1000 := by
    have := (parse_len h).1
    omega
  clear hg h hne hx hl
  go_enter Tryd.func14, Tryd.ntmps14
  go_wp2_with (first | (go_at_call 34; refine (HP.out _ HG.out).mono ?_; rintro e w1 ⟨b, rfl, hle, hblk, hb⟩; have hcell := cell_of_block hblk HX.out; have HB : Hid _ := hb; clear hb hle hblk))
  go_ret2
  exact ⟨rfl, HB.out⟩

theorem Tryd.info5 : (Tryd.prog.info? 5).map (fun i => (i.zero, i.size, i.bytes)) = some (some (.int .u8 0), 1, 1) := by kernel_rfl

theorem conv_zeros {w : World} {base g n : Nat} (h : w.ownsRow base 5 1 (.slice (some ⟨g, 0, none⟩) n n) n (madeCells (Value.int .u8 0).cells (n * 1)).toList) :
    ∃ z : ByteArray, z.size = n ∧ (convert 55 9 (.slice (some ⟨g, 0, none⟩) n n)).run Tryd.prog w = .ok (.string z) w := by
  refine ⟨strOfNums (List.replicate n 0), by rw [strOfNums_size, List.length_replicate], ?_⟩
  refine run_convert_bytes_arg w 55 5 Tryd.underlying55 Tryd.underlying5 g 0 n n (List.replicate n 0) (by simp) (fun i hi => ?_) 9 Tryd.underlying9
  rw [Nat.zero_add, h.cellAt i (by omega)]
  simp [madeCells, Value.cells, hi, Nat.mod_one]

theorem strs_two (w : World) (x y : ByteArray) : Strs (w.alloc (.cells #[.string x, .string y] 9)) w.heap.size 0 [x, y] := strs_new w [x, y]

set_option maxRecDepth 100000 in
theorem known_any (w : World) (hg : Ground w) :
    Calls Tryd.prog 12 #[] w fun e w' => e = .returned (.bool true) ∧ Below w.heap.size w w' := by
  have HP1 : Hid _ := parse_some (s := ⟨#[47, 97, 47, 98, 45, 49]⟩) (code := 0) (xs := [⟨#[97]⟩, ⟨#[98, 45, 49]⟩]) (by kernel_rfl) (by simp)
  have HP2 : Hid _ := parse_none (s := ⟨#[47, 97, 47]⟩) (code := 10) (by kernel_rfl)
  have HC1 : Hid _ := counted_root (-1) (s := ⟨#[47]⟩) (by kernel_rfl)
  have HC2 : Hid _ := counted_long (-1) (s := ⟨#[47, 97, 98, 99, 100, 101, 102, 103, 104, 105, 106, 107, 108]⟩) (xs := [⟨#[97, 98, 99, 100, 101, 102, 103, 104, 105, 106, 107, 108]⟩]) (by kernel_rfl) (by simp) _ rfl (by decide)
  have HG : Hid (Ground w) := hg
  obtain ⟨i1, hi, hz0, hz1, hz2⟩ := info_parts Tryd.info5
  obtain ⟨n, hn⟩ : ∃ n : Nat, n = 65537 := ⟨_, rfl⟩
  have HN : Hid _ := hn
  clear hg hn
  go_enter Tryd.func12, Tryd.ntmps12
  go_wp2_with fail
  refine (HP1.out _ HG.out).mono ?_
  rintro e w1 ⟨b1, rfl, _, hk1, hb1⟩
  have HK1 : Hid _ := hk1
  have HB1 : Hid _ := hb1
  clear hk1 hb1
  go_wp2_with fail
  refine (HP2.out _ (HG.out.below HB1.out)).mono ?_
  rintro e w2 ⟨rfl, hb2⟩
  have HB2 : Hid _ := hb2
  clear hb2
  have hL : (65537 : Int) = (n : Int) := by rw [HN.out]; rfl
  have HL : Hid ((65537 : Int) = (n : Int)) := hL
  clear hL
  go_wp2_with (first | (at_make; refine wpList_make_full _ rfl _ _ 55 rfl w2.heap.size 5 i1 (.int .u8 0) 1 Tryd.underlying55 hi hz0 hz1 .i64 .i64 65537 65537 n rfl rfl HL.out HL.out (by rw [hz2, HN.out]; decide) (by rw [HN.out]; decide) (Nat.le_refl _) ?_; intro w3 hown3 hgrow3; obtain ⟨z, hz, hconv⟩ := conv_zeros hown3; have HZ : Hid _ := hz; have HB3 : Hid (Below w2.heap.size w2 w3) := (Below.refl _ _).grown hgrow3 (Nat.le_refl _) (fun k hk => by cases hk); clear hown3 hgrow3 hz))
  refine (clean_long (s := z) (by rw [HZ.out, HN.out]; decide) w3).mono ?_
  rintro e w4 ⟨rfl, rfl⟩
  go_wp2_with fail
  refine (HC1.out _ (((HG.out.below HB1.out).below HB2.out).below HB3.out)).mono ?_
  rintro e w5 ⟨rfl, hb5⟩
  have HB5 : Hid _ := hb5
  clear hb5
  go_wp2_with fail
  refine (HC2.out _ ((((HG.out.below HB1.out).below HB2.out).below HB3.out).below HB5.out)).mono ?_
  rintro e w6 ⟨rfl, hb6⟩
  have HB6 : Hid _ := hb6
  clear hb6 hconv
  have hall : Below w.heap.size w w6 := ((((HB1.out.trans (HB2.out.mono HB1.out.size)).trans (HB3.out.mono (Nat.le_trans HB1.out.size HB2.out.size))).trans (HB5.out.mono (Nat.le_trans (Nat.le_trans HB1.out.size HB2.out.size) HB3.out.size))).trans (HB6.out.mono (Nat.le_trans (Nat.le_trans (Nat.le_trans HB1.out.size HB2.out.size) HB3.out.size) HB5.out.size)))
  have HALL : Hid _ := hall
  clear hall
  have h16 : Below w1.heap.size w1 w6 := (((HB2.out.trans (HB3.out.mono HB2.out.size)).trans (HB5.out.mono (Nat.le_trans HB2.out.size HB3.out.size))).trans (HB6.out.mono (Nat.le_trans (Nat.le_trans HB2.out.size HB3.out.size) HB5.out.size)))
  have hl1 : Lst (w6.alloc (.cells #[.string ⟨#[97]⟩, .string ⟨#[98, 45, 49]⟩] 9)) (some ⟨b1, 0, none⟩) [⟨#[97]⟩, ⟨#[98, 45, 49]⟩] :=
    ((Lst.below (w := w1) (w' := w6) (.inr ⟨b1, 0, rfl, lt_of_block' HK1.out, strs_of_block HK1.out⟩) h16).below ((Below.refl _ _).alloc (Nat.le_refl _) _))
  have hl2 : Lst (w6.alloc (.cells #[.string ⟨#[97]⟩, .string ⟨#[98, 45, 49]⟩] 9)) (some ⟨w6.heap.size, 0, none⟩) [⟨#[97]⟩, ⟨#[98, 45, 49]⟩] :=
    .inr ⟨_, 0, rfl, by simp, strs_two _ _ _⟩
  have HT : Hid (∀ c c', Calls Tryd.prog 20 #[.slice (some ⟨b1, 0, none⟩) 2 c, .slice (some ⟨w6.heap.size, 0, none⟩) 2 c'] (w6.alloc (.cells #[.string ⟨#[97]⟩, .string ⟨#[98, 45, 49]⟩] 9)) fun e w' => e = .returned (.bool true) ∧ ∃ m, w' = (w6.alloc (.cells #[.string ⟨#[97]⟩, .string ⟨#[98, 45, 49]⟩] 9)).drewN m) :=
    fun c c' => texts_same _ _ c c' [⟨#[97]⟩, ⟨#[98, 45, 49]⟩] _ hl1 hl2 (by decide)
  clear h16 hl1 hl2
  go_wp2_with (first | (go_at_call 20; refine (HT.out _ _).mono ?_; rintro e w7 ⟨rfl, m, rfl⟩) | (go_at_call 11; go_in))
  go_ret
  exact ⟨rfl, below_drewN (HALL.out.alloc HALL.out.size _) _⟩
end Go.Proofs.YtblhenblibdjoabDoor
