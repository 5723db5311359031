import Derived.Test.YtdjfeomdiljaeaaGreatDoorNames
import Derived.Test.YtdjfeomdiljaeaaGreatDoorNtData
namespace Go.Proofs.YtdjfeomdiljaeaaGreatDoor
open Go.RowKit

/-- The cells from ⟨b, o⟩ on hold these strings. -/
def Strs (w : World) (b o : Nat) (xs : List ByteArray) : Prop := ∀ (j : Nat) (x : ByteArray), xs[j]? = some x → w.cell? ⟨b, o + j, none⟩ = some (.string x)

/-- A slice of strings: no string, or these from an address on. -/
def Lst (w : World) (a : Option Addr) (xs : List ByteArray) : Prop := xs = [] ∨ ∃ b o, a = some ⟨b, o, none⟩ ∧ b < w.heap.size ∧ Strs w b o xs

theorem Lst.below {w w' : World} {a : Option Addr} {xs : List ByteArray} (h : Lst w a xs) (hb : Below w.heap.size w w') : Lst w' a xs := by
  rcases h with h | ⟨b, o, ha, hlt, hs⟩
  · exact .inl h
  · refine .inr ⟨b, o, ha, Nat.lt_of_lt_of_le hlt hb.size, fun j x hx => ?_⟩
    rw [hb.cell (p := ⟨b, o + j, none⟩) hlt]
    exact hs j x hx

theorem all_bad {xs : List ByteArray} {k : Nat} {x : ByteArray} (hx : xs[k]? = some x) (h : isNm x = false) : xs.all isNm = false := by
  rw [List.all_eq_false]
  exact ⟨x, List.mem_of_getElem? hx, by simp [h]⟩
theorem all_step {xs : List ByteArray} {k : Nat} {x : ByteArray} (hx : xs[k]? = some x) (h : isNm x = true) (ha : (xs.take k).all isNm = true) : (xs.take (k + 1)).all isNm = true := by
  rw [List.take_add_one, hx, List.all_append, ha]
  simp [h]

theorem areNames_any (a : Option Addr) (c : Nat) (xs : List ByteArray) (w : World) (hg : Ground w) (hl : Lst w a xs) (hm : xs.length ≤ 9223372036854775807) :
    Calls Tryz.prog 289 #[.slice a xs.length c] w fun e w' => e = .returned (.bool (xs.all isNm)) ∧ w' = w := by
  rcases hl with rfl | ⟨b, o, rfl, hb, hs⟩
  · clear hg
    go_enter Tryz.func289, Tryz.ntmps289
    go_wp2
    refine wp_loop_rounds 1 ?_
    rw [rounds_succ]
    go_wp2
    go_ret
    exact ⟨rfl, rfl⟩
  · have HG : Hid (Ground w) := hg
    have HS : Hid (Strs w b o xs) := hs
    clear hg hs hb
    go_enter Tryz.func289, Tryz.ntmps289
    go_wp2
    go_loop [7] (fun i => ∃ k : Nat, i = .int .i64 k ∧ k ≤ xs.length ∧ (xs.take k).all isNm = true) (fun i => xs.length - (intOf i).toNat)
    case atStart => exact ⟨0, rfl, by omega, rfl⟩
    case round =>
      obtain ⟨k, rfl, hk, ha⟩ := hrel
      have HA : Hid _ := ha
      clear ha
      by_cases hlt : k < xs.length
      · obtain ⟨x, hx⟩ : ∃ x, xs[k]? = some x := ⟨xs[k], List.getElem?_eq_getElem hlt⟩
        have hc := HS.out k x hx
        have HX : Hid (xs[k]? = some x) := hx
        clear hx
        go_wp2_with (first | (go_at_call 293; refine (isName_any _ _ HG.out).mono ?_; rintro e w' ⟨rfl, rfl⟩))
        · have hn : isNm x = false := by simpa using (show (!isNm x) = true by assumption)
          go_ret
          exact ⟨by rw [all_bad HX.out hn]; rfl, rfl⟩
        · have hn : isNm x = true := by simpa using (show (!isNm x) = false by assumption)
          go_round
          case rel => exact ⟨k + 1, by go_num, by omega, all_step HX.out hn HA.out⟩
          case measure => simp [intOf]; omega
      · obtain rfl : k = xs.length := by omega
        have e : xs.all isNm = true := by have := HA.out; rwa [List.take_length] at this
        have HE : Hid _ := e
        clear e
        go_wp2
        go_ret
        exact ⟨by rw [HE.out]; rfl, rfl⟩
end Go.Proofs.YtdjfeomdiljaeaaGreatDoor
namespace Go.Proofs.YtdjfeomdiljaeaaGreatDoor
open Go.RowKit

/-- A list that a call made: nil, or just these strings in a block of its own. -/
def Own (base : Nat) (w : World) (a : Option Addr) (c : Nat) (xs : List ByteArray) : Prop :=
  (xs = [] ∧ a = none ∧ c = 0) ∨ xs ≠ [] ∧ ∃ b, a = some ⟨b, 0, none⟩ ∧ c = xs.length ∧ base ≤ b ∧ w.heap[b]? = some (.cells (xs.map Value.string).toArray 9 (0, 0))

theorem strs_of_block {w : World} {b : Nat} {xs : List ByteArray} (h : w.heap[b]? = some (.cells (xs.map Value.string).toArray 9 (0, 0))) : Strs w b 0 xs := by
  intro j x hx
  rw [Nat.zero_add]
  simp [World.cell?, h, hx]

theorem strs_new (w : World) (xs : List ByteArray) : Strs (w.alloc (.cells (xs.map Value.string).toArray 9)) w.heap.size 0 xs := by
  intro j x hx
  rw [Nat.zero_add, World.cell?_alloc_at _ _ _ _ rfl]
  simp [hx]
theorem block_new (w : World) (xs : List ByteArray) : (w.alloc (.cells (xs.map Value.string).toArray 9)).heap[w.heap.size]? = some (.cells (xs.map Value.string).toArray 9 (0, 0)) := by
  show (w.heap.push _)[w.heap.size]? = _
  simp

theorem lt_of_block'  {w : World} {b : Nat} {o : Obj} (h : w.heap[b]? = some o) : b < w.heap.size := by
  rw [Array.getElem?_eq_some_iff] at h
  exact h.1

theorem Own.lst {base : Nat} {w : World} {a : Option Addr} {c : Nat} {xs : List ByteArray} (h : Own base w a c xs) : Lst w a xs := by
  rcases h with ⟨h, _, _⟩ | ⟨_, b, ha, _, _, hb⟩
  · exact .inl h
  · exact .inr ⟨b, 0, ha, lt_of_block' hb, strs_of_block hb⟩

theorem cutPrefix_yes (s : ByteArray) (l : List UInt8) (h : s.data.toList = 47 :: l) (w : World) :
    Calls Tryz.prog 286 #[.string s, .string ⟨#[47]⟩] w fun e w' => e = .returned (.tuple #[.string (mk l), .bool true]) ∧ w' = w := by
  refine (Tryz.strings_CutPrefix s ⟨#[47]⟩ w).mono fun e w' ⟨he, hw⟩ => ⟨?_, hw⟩
  rw [he, h]
  rfl
theorem cutPrefix_no (s : ByteArray) (h : ∀ l, s.data.toList ≠ 47 :: l) (w : World) :
    Calls Tryz.prog 286 #[.string s, .string ⟨#[47]⟩] w fun e w' => e = .returned (.tuple #[.string s, .bool false]) ∧ w' = w := by
  refine (Tryz.strings_CutPrefix s ⟨#[47]⟩ w).mono fun e w' ⟨he, hw⟩ => ⟨?_, hw⟩
  have hp : Lib.hasPrefix s.data.toList [47] = false := by
    cases hl : s.data.toList with
    | nil => rfl
    | cons b l =>
      have hb : ¬ 47 = b := fun e => h l (by rw [hl, e])
      simp [Lib.hasPrefix, List.isPrefixOf, hb]
  have ht : Lib.trimPrefix s.data.toList [47] = s.data.toList := by simp [Lib.trimPrefix, hp]
  rw [he]
  show Ending.returned (.tuple #[.string ⟨(Lib.trimPrefix s.data.toList [47]).toArray⟩, .bool (Lib.hasPrefix s.data.toList [47])]) = _
  rw [hp, ht]

theorem split_any (x : ByteArray) (hx : x.size < 4294967281) (w : World) (hg : Ground w) :
    Calls Tryz.prog 287 #[.string x, .string ⟨#[47]⟩] w fun e w' =>
      e = .returned (.slice (some ⟨w.heap.size, 0, none⟩) (cutB x).length (cutB x).length) ∧ w' = w.alloc (.cells ((cutB x).map Value.string).toArray 9) := by
  obtain ⟨m, hm⟩ := hg.most
  refine (Tryz.strings_Split x ⟨#[47]⟩ m w hx hm (by decide)).mono fun e w' ⟨he, hw⟩ => ?_
  have hl : (cutB x).length = Lib.countB x ⟨#[47]⟩ + 1 := by
    unfold cutB
    rw [List.length_map, cutL_length]
    have : Lib.countB x ⟨#[47]⟩ = x.data.toList.count 47 := Lib.count_one 47 x.data.toList
    rw [this]
  rw [splitB_cut] at hw
  exact ⟨by rw [he, hl], hw⟩

theorem clone_any (x : ByteArray) (hx : x.size ≤ 281474976710656) (w : World) :
    Calls Tryz.prog 292 #[.string x] w fun e w' => e = .returned (.string x) ∧ Below w.heap.size w w' := Tryz.stringslite_Clone x w hx

/-- What Parse leaves. -/
def Parsed (s : ByteArray) (w : World) (e : Ending) (w' : World) : Prop :=
  ∃ a c, e = .returned (.tuple #[.slice a (parse s).2.length c, .int .i64 (parse s).1]) ∧ Own w.heap.size w' a c (parse s).2 ∧ Below w.heap.size w w'

theorem parse_long {s : ByteArray} (h : 102 < s.size) : parse s = (2, []) := by rw [parse, if_pos h]
theorem parse_root {s : ByteArray} (h : s.data.toList = [47]) : parse s = (0, []) := by
  have : s.size = 1 := by simpa using congrArg List.length h
  rw [parse, if_neg (by omega), if_pos h]
theorem parse_no {s : ByteArray} (h0 : ¬ 102 < s.size) (h : ∀ l, s.data.toList ≠ 47 :: l) : parse s = (10, []) := by
  rw [parse, if_neg h0, if_neg (h [])]
  cases hl : s.data.toList with
  | nil => rfl
  | cons b l => exact if_neg (fun e => h l (by rw [hl, e]))
theorem parse_yes {s : ByteArray} {l : List UInt8} (h0 : ¬ 102 < s.size) (h1 : ¬ s.data.toList = [47]) (h : s.data.toList = 47 :: l) :
    parse s = if (cutL l).length ≤ 6 ∧ ((cutL l).map mk).all isNm = true then (0, (cutL l).map mk) else (10, []) := by
  rw [parse, if_neg h0, if_neg h1, h]
  exact if_pos rfl
theorem cutB_mk (l : List UInt8) : cutB (mk l) = (cutL l).map mk := by rw [cutB, data_mk]

theorem none_of {s : ByteArray} {w : World} {code : Int} (h : parse s = (code, [])) {w' : World} (hb : Below w.heap.size w w') {e : Ending} (he : e = .returned (.tuple #[.slice none 0 0, .int .i64 code])) : Parsed s w e w' := by
  refine ⟨none, 0, ?_, ?_, hb⟩
  · rw [he, h]; rfl
  · rw [h]; exact .inl ⟨rfl, rfl, rfl⟩

theorem parse_slash (s : ByteArray) (l : List UInt8) (hl : s.data.toList = 47 :: l) (w : World) (hg : Ground w) (h0 : ¬ 102 < s.size) (h1 : ¬ s.data.toList = [47]) :
    Calls Tryz.prog 279 #[.string s] w (Parsed s w) := by
  have h0' : ¬ (102 : Int) < (s.size : Int) := by omega
  have h1' : (s.toList == [47]) = false := by rw [ByteArray.toList_eq]; simpa using h1
  have hsz : (mk l).size ≤ 102 := by
    rw [size_mk]
    have : s.data.toList.length = l.length + 1 := by rw [hl]; rfl
    simp at this
    omega
  obtain ⟨xs, hxs⟩ : ∃ xs, cutB (mk l) = xs := ⟨_, rfl⟩
  have hp : parse s = if xs.length ≤ 6 ∧ xs.all isNm = true then (0, xs) else (10, []) := by
    rw [parse_yes h0 h1 hl, ← hxs, cutB_mk, List.length_map]
  have HC : Hid _ := cutPrefix_yes s l hl
  have HS : Hid (∀ w, Ground w → Calls Tryz.prog 287 #[.string (mk l), .string ⟨#[47]⟩] w fun e w' => e = .returned (.slice (some ⟨w.heap.size, 0, none⟩) xs.length xs.length) ∧ w' = w.alloc (.cells (xs.map Value.string).toArray 9)) :=
    fun w hg => by rw [← hxs]; exact split_any (mk l) (by omega) w hg
  have HG : Hid (Ground w) := hg
  have HP : Hid _ := hp
  have hcl : (mk l).size ≤ 281474976710656 := by omega
  have hlen : xs.length ≤ 103 := by
    rw [← hxs, cutB_mk, List.length_map, cutL_length]
    have := List.count_le_length (a := 47) (l := l)
    rw [size_mk] at hsz
    omega
  have HNE : Hid (xs ≠ []) := by rw [← hxs]; exact cutB_ne _
  clear hg hp hl h1 hxs
  generalize mk l = rest at *
  by_cases hN : xs.length ≤ 6
  · cases hall : xs.all isNm
    · have hN' : (xs.length : Int) ≤ 6 := by omega
      go_enter Tryz.func279, Tryz.ntmps279
      go_wp2_with (first
        | (go_at_call 286; refine (HC.out _).mono ?_; rintro e w' ⟨rfl, rfl⟩)
        | (go_at_call 292; refine (clone_any _ hcl _).mono ?_; rintro e w1 ⟨rfl, hb1⟩; have HB : Hid _ := hb1; clear hb1)
        | (go_at_call 287; refine (HS.out _ (HG.out.below HB.out)).mono ?_; rintro e w2 ⟨rfl, rfl⟩)
        | (go_at_call 289; refine (areNames_any _ _ xs _ ((HG.out.below HB.out).below ((Below.refl _ _).alloc (Nat.le_refl _) _)) (.inr ⟨_, 0, rfl, by simp, strs_new _ _⟩) (by omega)).mono ?_; rintro e w3 ⟨rfl, rfl⟩)
        | go_in)
      go_ret2
      exact none_of (by rw [HP.out, if_neg (by simp [hall])]) (HB.out.alloc HB.out.size _) rfl
    · have hN' : (xs.length : Int) ≤ 6 := by omega
      go_enter Tryz.func279, Tryz.ntmps279
      go_wp2_with (first
        | (go_at_call 286; refine (HC.out _).mono ?_; rintro e w' ⟨rfl, rfl⟩)
        | (go_at_call 292; refine (clone_any _ hcl _).mono ?_; rintro e w1 ⟨rfl, hb1⟩; have HB : Hid _ := hb1; clear hb1)
        | (go_at_call 287; refine (HS.out _ (HG.out.below HB.out)).mono ?_; rintro e w2 ⟨rfl, rfl⟩)
        | (go_at_call 289; refine (areNames_any _ _ xs _ ((HG.out.below HB.out).below ((Below.refl _ _).alloc (Nat.le_refl _) _)) (.inr ⟨_, 0, rfl, by simp, strs_new _ _⟩) (by omega)).mono ?_; rintro e w3 ⟨rfl, rfl⟩)
        | go_in)
      go_ret2
      have e1 : parse s = (0, xs) := by rw [HP.out, if_pos ⟨hN, hall⟩]
      refine ⟨some ⟨w1.heap.size, 0, none⟩, xs.length, ?_, ?_, HB.out.alloc HB.out.size _⟩
      · rw [e1]; rfl
      · rw [e1]; exact .inr ⟨HNE.out, _, rfl, rfl, HB.out.size, block_new _ _⟩
  · have hN' : (6 : Int) < (xs.length : Int) := by omega
    go_enter Tryz.func279, Tryz.ntmps279
    go_wp2_with (first
      | (go_at_call 286; refine (HC.out _).mono ?_; rintro e w' ⟨rfl, rfl⟩)
      | (go_at_call 292; refine (clone_any _ hcl _).mono ?_; rintro e w1 ⟨rfl, hb1⟩; have HB : Hid _ := hb1; clear hb1)
      | (go_at_call 287; refine (HS.out _ (HG.out.below HB.out)).mono ?_; rintro e w2 ⟨rfl, rfl⟩)
      | (go_at_call 289; refine (areNames_any _ _ xs _ ((HG.out.below HB.out).below ((Below.refl _ _).alloc (Nat.le_refl _) _)) (.inr ⟨_, 0, rfl, by simp, strs_new _ _⟩) (by omega)).mono ?_; rintro e w3 ⟨rfl, rfl⟩)
      | go_in)
    go_ret2
    exact none_of (by rw [HP.out, if_neg (by omega)]) (HB.out.alloc HB.out.size _) rfl

theorem parse_any (s : ByteArray) (w : World) (hg : Ground w) :
    Calls Tryz.prog 279 #[.string s] w (Parsed s w) := by
  by_cases h0 : 102 < s.size
  · have h0' : (102 : Int) < (s.size : Int) := by omega
    have hp := none_of (s := s) (w := w) (parse_long h0) (Below.refl _ _) rfl
    have HP : Hid _ := hp
    clear hp hg
    go_enter Tryz.func279, Tryz.ntmps279
    go_wp2
    go_ret2
    exact HP.out
  have h0' : ¬ (102 : Int) < (s.size : Int) := by omega
  by_cases h1 : s.data.toList = [47]
  · have h1' : s.toList = [47] := by rw [ByteArray.toList_eq, h1]
    have hp := none_of (s := s) (w := w) (parse_root h1) (Below.refl _ _) rfl
    have HP : Hid _ := hp
    clear hp hg h1
    go_enter Tryz.func279, Tryz.ntmps279
    go_wp2
    go_ret2
    exact HP.out
  have h1' : (s.toList == [47]) = false := by rw [ByteArray.toList_eq]; simpa using h1
  by_cases h2 : ∃ l, s.data.toList = 47 :: l
  · obtain ⟨l, hl⟩ := h2
    exact parse_slash s l hl w hg h0 h1
  · have h2' : ∀ l, s.data.toList ≠ 47 :: l := fun l e => h2 ⟨l, e⟩
    have hp := none_of (s := s) (w := w) (parse_no h0 h2') (Below.refl _ _) rfl
    have HP : Hid _ := hp
    have HC : Hid _ := cutPrefix_no s h2'
    clear hp hg h2 h2' h1
    go_enter Tryz.func279, Tryz.ntmps279
    go_wp2_with (first | (go_at_call 286; refine (HC.out _).mono ?_; rintro e w' ⟨rfl, rfl⟩))
    go_ret2
    exact HP.out

theorem parse_none {s : ByteArray} {code : Int} (h : parse s = (code, [])) (w : World) (hg : Ground w) :
    Calls Tryz.prog 279 #[.string s] w fun e w' => e = .returned (.tuple #[.slice none 0 0, .int .i64 code]) ∧ Below w.heap.size w w' := by
  refine (parse_any s w hg).mono ?_
  rintro e w' ⟨a, c, he, hO, hb⟩
  rw [h] at he hO
  rcases hO with ⟨_, rfl, rfl⟩ | ⟨hne, _⟩
  · exact ⟨he, hb⟩
  · exact absurd rfl hne
theorem parse_some {s : ByteArray} {code : Int} {xs : List ByteArray} (h : parse s = (code, xs)) (hne : xs ≠ []) (w : World) (hg : Ground w) :
    Calls Tryz.prog 279 #[.string s] w fun e w' =>
      ∃ b, e = .returned (.tuple #[.slice (some ⟨b, 0, none⟩) xs.length xs.length, .int .i64 code]) ∧ w.heap.size ≤ b ∧ w'.heap[b]? = some (.cells (xs.map Value.string).toArray 9 (0, 0)) ∧ Below w.heap.size w w' := by
  refine (parse_any s w hg).mono ?_
  rintro e w' ⟨a, c, he, hO, hb⟩
  rw [h] at he hO
  rcases hO with ⟨h0, _⟩ | ⟨_, b, rfl, rfl, hle, hblk⟩
  · exact absurd h0 hne
  · exact ⟨b, he, hle, hblk, hb⟩
end Go.Proofs.YtdjfeomdiljaeaaGreatDoor
namespace Go.Proofs.YtdjfeomdiljaeaaGreatDoor
open Go.RowKit
set_option linter.unusedVariables false
set_option linter.unusedSimpArgs false

theorem xtransN {w w1 w2 : World} (h1 : Below w.heap.size w w1) (h2 : Below w1.heap.size w1 w2) : Below w.heap.size w w2 := h1.trans (h2.mono h1.size)
theorem text_ck (s : ByteArray) (m : Int) (w : World) : Calls Tryz.prog 106 #[.string s, .int .i64 m] w (CK ((s.size : Int) ≤ m) w) := by
  obtain ⟨ok, hok⟩ : ∃ ok : Prop, ((s.size : Int) ≤ m) = ok := ⟨_, rfl⟩
  have HOK : Hid (ok = ((s.size : Int) ≤ m)) := hok.symm
  rw [hok]
  clear hok
  go_enter Tryz.func106, Tryz.ntmps106
  by_cases h1 : (s.size : Int) ≤ m
  · go_wp2_with fail
    refine (must_ck _ _).mono ?_
    rintro e w1 ⟨⟨rfl, _⟩ | ⟨rfl, h⟩, rfl⟩
    · go_wp2_with fail
      exact bodyPost_end (results_none rfl _ _ _) rfl ⟨.inl ⟨rfl, by rw [HOK.out]; exact h1⟩, Below.refl _ _⟩
    · exact absurd rfl h
  · go_wp2_with fail
    refine (must_ck _ _).mono ?_
    rintro e w1 ⟨⟨rfl, h⟩ | ⟨rfl, _⟩, rfl⟩
    · exact absurd h (by decide)
    · exact ⟨rfl, .inr ⟨rfl, by rw [HOK.out]; omega⟩, Below.refl _ _⟩
/-- What all of the numbers must be. -/
def nums (L : List Int) : Prop := ∀ x ∈ L, 0 ≤ x ∧ x ≤ 2147483647
set_option maxHeartbeats 1600000 in
theorem numbers_ck (a : Option Addr) (c : Nat) (L : List Int) (w : World) (hL : RowC w a 1 (L.map intC)) : Calls Tryz.prog 105 #[.slice a L.length c] w (CK (nums L) w) := by
  have HL : Hid (RowC w a 1 (L.map intC)) := hL
  obtain ⟨ok, hok⟩ : ∃ ok : Prop, nums L = ok := ⟨_, rfl⟩
  have HOK : Hid (ok = nums L) := hok.symm
  obtain ⟨m, hm⟩ : ∃ m, L.length = m := ⟨_, rfl⟩
  have HM : Hid (L.length = m) := hm
  have hlen := hL.len
  rw [hm] at hlen
  rw [hok, hm]
  clear hok hm hL
  go_enter Tryz.func105, Tryz.ntmps105
  go_wp2_with fail
  go_loopw [6] (fun iv wr => ∃ q : Nat, iv = .int .i64 q ∧ q ≤ m ∧ Hid (∀ j x, j < q → L[j]? = some x → 0 ≤ x ∧ x ≤ 2147483647) ∧ Hid (Below w.heap.size w wr)) (fun iv _ => m - (intOf iv).toNat)
  case atStart => exact ⟨0, rfl, Nat.zero_le _, fun j x h => absurd h (by omega), Below.refl _ _⟩
  case round =>
    obtain ⟨q, rfl, hqm, HDo, HBr⟩ := hrel
    by_cases hlt : q < m
    · have hlt' : (q : Int) < (m : Int) := by omega
      obtain ⟨x, hx⟩ : ∃ x, L[q]? = some x := ⟨L[q]'(by rw [HM.out]; exact hlt), List.getElem?_eq_getElem _⟩
      have HX : Hid (L[q]? = some x) := hx
      obtain ⟨b, o, rfl, n0⟩ := (HL.out.below HBr.out).at1 (map_at hx)
      clear hx
      have HC : Hid _ := number_ck x 0 wr
      go_wp2_with (first
        | (go_at_call 67; refine Calls.mono HC.out ?_; rintro e w1 ⟨⟨rfl, h⟩ | ⟨rfl, h⟩, hb⟩)
        | fail)
      · have HD1 : Hid (∀ j x, j < q + 1 → L[j]? = some x → 0 ≤ x ∧ x ≤ 2147483647) := fun j y hj hy => by
          by_cases e : j = q
          · subst e
            rw [HX.out] at hy
            cases hy
            exact h
          · exact HDo.out j y (by omega) hy
        have HB1 : Hid (Below w.heap.size w w1) := xtransN HBr.out hb
        clear h hb
        go_wp2_with fail
        go_roundw
        case rel => exact ⟨q + 1, by go_num, by omega, HD1, HB1⟩
        case measure => simp [intOf]; omega
      · exact ⟨rfl, .inr ⟨rfl, by rw [HOK.out]; exact fun g => h (g x (List.mem_of_getElem? HX.out))⟩, xtransN HBr.out hb⟩
    · have hlt' : ¬ (q : Int) < (m : Int) := by omega
      go_wp2_with fail
      exact bodyPost_end (results_none rfl _ _ _) rfl ⟨.inl ⟨rfl, by
        rw [HOK.out]
        intro x hx
        obtain ⟨j, hj, e⟩ := List.getElem_of_mem hx
        have := HM.out
        exact HDo.out j x (by omega) (by rw [List.getElem?_eq_getElem hj, e])⟩, HBr.out⟩
end Go.Proofs.YtdjfeomdiljaeaaGreatDoor
