/-
  Parse by a contract.
-/
import Derived.Test.YtbblckcjedjbcaaGreatDoorLists
namespace Go.Proofs.YtbblckcjedjbcaaGreatDoor
open Go.RowKit

/-- A list that a call made: nil, or just these strings in a block of its own. -/
def Own (base : Nat) (w : World) (a : Option Addr) (c : Nat) (xs : List ByteArray) : Prop :=
  (xs = [] ∧ a = none ∧ c = 0) ∨ xs ≠ [] ∧ ∃ b, a = some ⟨b, 0, none⟩ ∧ c = xs.length ∧ base ≤ b ∧ w.heap[b]? = some (.cells (xs.map Value.string).toArray 9 (0, 0))

theorem strs_of_block {w : World} {b : Nat} {xs : List ByteArray} (h : w.heap[b]? = some (.cells (xs.map Value.string).toArray 9 (0, 0))) : Strs w b 0 xs := by
  intro j x hx
  rw [Nat.zero_add]
  simp [World.cell?, h, hx]

theorem strs_new (w : World) (xs : List ByteArray) : Strs (w.alloc (.cells (xs.map Value.string).toArray 9)) w.heap.size 0 xs := by
  intro j x hx
  rw [Nat.zero_add, World.cell?_alloc_at _ _ _ _ rfl]
  simp [hx]
theorem block_new (w : World) (xs : List ByteArray) : (w.alloc (.cells (xs.map Value.string).toArray 9)).heap[w.heap.size]? = some (.cells (xs.map Value.string).toArray 9 (0, 0)) := by
  show (w.heap.push _)[w.heap.size]? = _
  simp

theorem lt_of_block'  {w : World} {b : Nat} {o : Obj} (h : w.heap[b]? = some o) : b < w.heap.size := by
  rw [Array.getElem?_eq_some_iff] at h
  exact h.1

theorem Own.lst {base : Nat} {w : World} {a : Option Addr} {c : Nat} {xs : List ByteArray} (h : Own base w a c xs) : Lst w a xs := by
  rcases h with ⟨h, _, _⟩ | ⟨_, b, ha, _, _, hb⟩
  · exact .inl h
  · exact .inr ⟨b, 0, ha, lt_of_block' hb, strs_of_block hb⟩

theorem cutPrefix_yes (s : ByteArray) (l : List UInt8) (h : s.data.toList = 47 :: l) (w : World) :
    Calls Tryz.prog 58 #[.string s, .string ⟨#[47]⟩] w fun e w' => e = .returned (.tuple #[.string (mk l), .bool true]) ∧ w' = w := by
  refine (Tryz.strings_CutPrefix s ⟨#[47]⟩ w).mono fun e w' ⟨he, hw⟩ => ⟨?_, hw⟩
  rw [he, h]
  rfl
theorem cutPrefix_no (s : ByteArray) (h : ∀ l, s.data.toList ≠ 47 :: l) (w : World) :
    Calls Tryz.prog 58 #[.string s, .string ⟨#[47]⟩] w fun e w' => e = .returned (.tuple #[.string s, .bool false]) ∧ w' = w := by
  refine (Tryz.strings_CutPrefix s ⟨#[47]⟩ w).mono fun e w' ⟨he, hw⟩ => ⟨?_, hw⟩
  have hp : Lib.hasPrefix s.data.toList [47] = false := by
    cases hl : s.data.toList with
    | nil => rfl
    | cons b l =>
      have hb : ¬ 47 = b := fun e => h l (by rw [hl, e])
      simp [Lib.hasPrefix, List.isPrefixOf, hb]
  have ht : Lib.trimPrefix s.data.toList [47] = s.data.toList := by simp [Lib.trimPrefix, hp]
  rw [he]
  show Ending.returned (.tuple #[.string ⟨(Lib.trimPrefix s.data.toList [47]).toArray⟩, .bool (Lib.hasPrefix s.data.toList [47])]) = _
  rw [hp, ht]

theorem split_any (x : ByteArray) (hx : x.size < 4294967281) (w : World) (hg : Ground w) :
    Calls Tryz.prog 59 #[.string x, .string ⟨#[47]⟩] w fun e w' =>
      e = .returned (.slice (some ⟨w.heap.size, 0, none⟩) (cutB x).length (cutB x).length) ∧ w' = w.alloc (.cells ((cutB x).map Value.string).toArray 9) := by
  obtain ⟨m, hm⟩ := hg.most
  refine (Tryz.strings_Split x ⟨#[47]⟩ m w hx hm (by decide)).mono fun e w' ⟨he, hw⟩ => ?_
  have hl : (cutB x).length = Lib.countB x ⟨#[47]⟩ + 1 := by
    unfold cutB
    rw [List.length_map, cutL_length]
    have : Lib.countB x ⟨#[47]⟩ = x.data.toList.count 47 := Lib.count_one 47 x.data.toList
    rw [this]
  rw [splitB_cut] at hw
  exact ⟨by rw [he, hl], hw⟩

theorem clone_any (x : ByteArray) (hx : x.size ≤ 281474976710656) (w : World) :
    Calls Tryz.prog 65 #[.string x] w fun e w' => e = .returned (.string x) ∧ Below w.heap.size w w' := Tryz.stringslite_Clone x w hx

/-- What Parse leaves. -/
def Parsed (s : ByteArray) (w : World) (e : Ending) (w' : World) : Prop :=
  ∃ a c, e = .returned (.tuple #[.slice a (parse s).2.length c, .int .i64 (parse s).1]) ∧ Own w.heap.size w' a c (parse s).2 ∧ Below w.heap.size w w'

theorem parse_long {s : ByteArray} (h : 102 < s.size) : parse s = (2, []) := by rw [parse, if_pos h]
theorem parse_root {s : ByteArray} (h : s.data.toList = [47]) : parse s = (0, []) := by
  have : s.size = 1 := by simpa using congrArg List.length h
  rw [parse, if_neg (by omega), if_pos h]
theorem parse_no {s : ByteArray} (h0 : ¬ 102 < s.size) (h : ∀ l, s.data.toList ≠ 47 :: l) : parse s = (10, []) := by
  rw [parse, if_neg h0, if_neg (h [])]
  cases hl : s.data.toList with
  | nil => rfl
  | cons b l => exact if_neg (fun e => h l (by rw [hl, e]))
theorem parse_yes {s : ByteArray} {l : List UInt8} (h0 : ¬ 102 < s.size) (h1 : ¬ s.data.toList = [47]) (h : s.data.toList = 47 :: l) :
    parse s = if (cutL l).length ≤ 6 ∧ ((cutL l).map mk).all isNm = true then (0, (cutL l).map mk) else (10, []) := by
  rw [parse, if_neg h0, if_neg h1, h]
  exact if_pos rfl
theorem cutB_mk (l : List UInt8) : cutB (mk l) = (cutL l).map mk := by rw [cutB, data_mk]

theorem none_of {s : ByteArray} {w : World} {code : Int} (h : parse s = (code, [])) {w' : World} (hb : Below w.heap.size w w') {e : Ending} (he : e = .returned (.tuple #[.slice none 0 0, .int .i64 code])) : Parsed s w e w' := by
  refine ⟨none, 0, ?_, ?_, hb⟩
  · rw [he, h]; rfl
  · rw [h]; exact .inl ⟨rfl, rfl, rfl⟩

theorem parse_slash (s : ByteArray) (l : List UInt8) (hl : s.data.toList = 47 :: l) (w : World) (hg : Ground w) (h0 : ¬ 102 < s.size) (h1 : ¬ s.data.toList = [47]) :
    Calls Tryz.prog 30 #[.string s] w (Parsed s w) := by
  have h0' : ¬ (102 : Int) < (s.size : Int) := by omega
  have h1' : (s.toList == [47]) = false := by rw [ByteArray.toList_eq]; simpa using h1
  have hsz : (mk l).size ≤ 102 := by
    rw [size_mk]
    have : s.data.toList.length = l.length + 1 := by rw [hl]; rfl
    simp at this
    omega
  obtain ⟨xs, hxs⟩ : ∃ xs, cutB (mk l) = xs := ⟨_, rfl⟩
  have hp : parse s = if xs.length ≤ 6 ∧ xs.all isNm = true then (0, xs) else (10, []) := by
    rw [parse_yes h0 h1 hl, ← hxs, cutB_mk, List.length_map]
  have HC : Hid _ := cutPrefix_yes s l hl
  have HS : Hid (∀ w, Ground w → Calls Tryz.prog 59 #[.string (mk l), .string ⟨#[47]⟩] w fun e w' => e = .returned (.slice (some ⟨w.heap.size, 0, none⟩) xs.length xs.length) ∧ w' = w.alloc (.cells (xs.map Value.string).toArray 9)) :=
    fun w hg => by rw [← hxs]; exact split_any (mk l) (by omega) w hg
  have HG : Hid (Ground w) := hg
  have HP : Hid _ := hp
  have hcl : (mk l).size ≤ 281474976710656 := by omega
  have hlen : xs.length ≤ 103 := by
    rw [← hxs, cutB_mk, List.length_map, cutL_length]
    have := List.count_le_length (a := 47) (l := l)
    rw [size_mk] at hsz
    omega
  have HNE : Hid (xs ≠ []) := by rw [← hxs]; exact cutB_ne _
  clear hg hp hl h1 hxs
  generalize mk l = rest at *
  by_cases hN : xs.length ≤ 6
  · cases hall : xs.all isNm
    · have hN' : (xs.length : Int) ≤ 6 := by omega
      go_enter Tryz.func30, Tryz.ntmps30
      go_wp2_with (first
        | (go_at_call 58; refine (HC.out _).mono ?_; rintro e w' ⟨rfl, rfl⟩)
        | (go_at_call 65; refine (clone_any _ hcl _).mono ?_; rintro e w1 ⟨rfl, hb1⟩; have HB : Hid _ := hb1; clear hb1)
        | (go_at_call 59; refine (HS.out _ (HG.out.below HB.out)).mono ?_; rintro e w2 ⟨rfl, rfl⟩)
        | (go_at_call 60; refine (areNames_any _ _ xs _ ((HG.out.below HB.out).below ((Below.refl _ _).alloc (Nat.le_refl _) _)) (.inr ⟨_, 0, rfl, by simp, strs_new _ _⟩) (by omega)).mono ?_; rintro e w3 ⟨rfl, rfl⟩)
        | go_in)
      go_ret2
      exact none_of (by rw [HP.out, if_neg (by simp [hall])]) (HB.out.alloc HB.out.size _) rfl
    · have hN' : (xs.length : Int) ≤ 6 := by omega
      go_enter Tryz.func30, Tryz.ntmps30
      go_wp2_with (first
        | (go_at_call 58; refine (HC.out _).mono ?_; rintro e w' ⟨rfl, rfl⟩)
        | (go_at_call 65; refine (clone_any _ hcl _).mono ?_; rintro e w1 ⟨rfl, hb1⟩; have HB : Hid _ := hb1; clear hb1)
        | (go_at_call 59; refine (HS.out _ (HG.out.below HB.out)).mono ?_; rintro e w2 ⟨rfl, rfl⟩)
        | (go_at_call 60; refine (areNames_any _ _ xs _ ((HG.out.below HB.out).below ((Below.refl _ _).alloc (Nat.le_refl _) _)) (.inr ⟨_, 0, rfl, by simp, strs_new _ _⟩) (by omega)).mono ?_; rintro e w3 ⟨rfl, rfl⟩)
        | go_in)
      go_ret2
      have e1 : parse s = (0, xs) := by rw [HP.out, if_pos ⟨hN, hall⟩]
      refine ⟨some ⟨w1.heap.size, 0, none⟩, xs.length, ?_, ?_, HB.out.alloc HB.out.size _⟩
      · rw [e1]; rfl
      · rw [e1]; exact .inr ⟨HNE.out, _, rfl, rfl, HB.out.size, block_new _ _⟩
  · have hN' : (6 : Int) < (xs.length : Int) := by omega
    go_enter Tryz.func30, Tryz.ntmps30
    go_wp2_with (first
      | (go_at_call 58; refine (HC.out _).mono ?_; rintro e w' ⟨rfl, rfl⟩)
      | (go_at_call 65; refine (clone_any _ hcl _).mono ?_; rintro e w1 ⟨rfl, hb1⟩; have HB : Hid _ := hb1; clear hb1)
      | (go_at_call 59; refine (HS.out _ (HG.out.below HB.out)).mono ?_; rintro e w2 ⟨rfl, rfl⟩)
      | (go_at_call 60; refine (areNames_any _ _ xs _ ((HG.out.below HB.out).below ((Below.refl _ _).alloc (Nat.le_refl _) _)) (.inr ⟨_, 0, rfl, by simp, strs_new _ _⟩) (by omega)).mono ?_; rintro e w3 ⟨rfl, rfl⟩)
      | go_in)
    go_ret2
    exact none_of (by rw [HP.out, if_neg (by omega)]) (HB.out.alloc HB.out.size _) rfl

theorem parse_any (s : ByteArray) (w : World) (hg : Ground w) :
    Calls Tryz.prog 30 #[.string s] w (Parsed s w) := by
  by_cases h0 : 102 < s.size
  · have h0' : (102 : Int) < (s.size : Int) := by omega
    have hp := none_of (s := s) (w := w) (parse_long h0) (Below.refl _ _) rfl
    have HP : Hid _ := hp
    clear hp hg
    go_enter Tryz.func30, Tryz.ntmps30
    go_wp2
    go_ret2
    exact HP.out
  have h0' : ¬ (102 : Int) < (s.size : Int) := by omega
  by_cases h1 : s.data.toList = [47]
  · have h1' : s.toList = [47] := by rw [ByteArray.toList_eq, h1]
    have hp := none_of (s := s) (w := w) (parse_root h1) (Below.refl _ _) rfl
    have HP : Hid _ := hp
    clear hp hg h1
    go_enter Tryz.func30, Tryz.ntmps30
    go_wp2
    go_ret2
    exact HP.out
  have h1' : (s.toList == [47]) = false := by rw [ByteArray.toList_eq]; simpa using h1
  by_cases h2 : ∃ l, s.data.toList = 47 :: l
  · obtain ⟨l, hl⟩ := h2
    exact parse_slash s l hl w hg h0 h1
  · have h2' : ∀ l, s.data.toList ≠ 47 :: l := fun l e => h2 ⟨l, e⟩
    have hp := none_of (s := s) (w := w) (parse_no h0 h2') (Below.refl _ _) rfl
    have HP : Hid _ := hp
    have HC : Hid _ := cutPrefix_no s h2'
    clear hp hg h2 h2' h1
    go_enter Tryz.func30, Tryz.ntmps30
    go_wp2_with (first | (go_at_call 58; refine (HC.out _).mono ?_; rintro e w' ⟨rfl, rfl⟩))
    go_ret2
    exact HP.out

theorem parse_none {s : ByteArray} {code : Int} (h : parse s = (code, [])) (w : World) (hg : Ground w) :
    Calls Tryz.prog 30 #[.string s] w fun e w' => e = .returned (.tuple #[.slice none 0 0, .int .i64 code]) ∧ Below w.heap.size w w' := by
  refine (parse_any s w hg).mono ?_
  rintro e w' ⟨a, c, he, hO, hb⟩
  rw [h] at he hO
  rcases hO with ⟨_, rfl, rfl⟩ | ⟨hne, _⟩
  · exact ⟨he, hb⟩
  · exact absurd rfl hne
theorem parse_some {s : ByteArray} {code : Int} {xs : List ByteArray} (h : parse s = (code, xs)) (hne : xs ≠ []) (w : World) (hg : Ground w) :
    Calls Tryz.prog 30 #[.string s] w fun e w' =>
      ∃ b, e = .returned (.tuple #[.slice (some ⟨b, 0, none⟩) xs.length xs.length, .int .i64 code]) ∧ w.heap.size ≤ b ∧ w'.heap[b]? = some (.cells (xs.map Value.string).toArray 9 (0, 0)) ∧ Below w.heap.size w w' := by
  refine (parse_any s w hg).mono ?_
  rintro e w' ⟨a, c, he, hO, hb⟩
  rw [h] at he hO
  rcases hO with ⟨h0, _⟩ | ⟨_, b, rfl, rfl, hle, hblk⟩
  · exact absurd h0 hne
  · exact ⟨b, he, hle, hblk, hb⟩
end Go.Proofs.YtbblckcjedjbcaaGreatDoor
