/-
  belowRoot; the fixed answers of known.
-/
import Derived.Test.YtcoicoijllpgnaaDoorParse
import Derived.Test.YtcoicoijllpgnaaDoorTexts
import Derived.Laws.BytesArg
import Derived.WalkMore
import Derived.WalkSmall
namespace Go.Proofs.YtcoicoijllpgnaaDoor
open Go.RowKit

theorem parse_len {s : ByteArray} {c : Int} {xs : List ByteArray} (h : parse s = (c, xs)) : xs.length ≤ 6 ∧ xs.all isNm = true := by
  have hnil : ∀ {c' : Int}, (c', ([] : List ByteArray)) = (c, xs) → xs.length ≤ 6 ∧ xs.all isNm = true := by
    intro c' e
    cases e
    exact ⟨by simp, rfl⟩
  by_cases h0 : 102 < s.size
  · rw [parse_long h0] at h; exact hnil h
  by_cases h1 : s.data.toList = [47]
  · rw [parse_root h1] at h; exact hnil h
  by_cases h2 : ∃ l, s.data.toList = 47 :: l
  · obtain ⟨l, hl⟩ := h2
    rw [parse_yes h0 h1 hl] at h
    split at h
    · rename_i hh
      cases h
      exact ⟨by simpa using hh.1, hh.2⟩
    · exact hnil h
  · rw [parse_no h0 (fun l e => h2 ⟨l, e⟩)] at h; exact hnil h

theorem parse_code {s : ByteArray} {code : Int} {xs : List ByteArray} (h : parse s = (code, xs)) (hc : code ≠ 0) : xs = [] := by
  by_cases h0 : 102 < s.size
  · rw [parse_long h0] at h; cases h; rfl
  by_cases h1 : s.data.toList = [47]
  · rw [parse_root h1] at h; cases h; rfl
  by_cases h2 : ∃ l, s.data.toList = 47 :: l
  · obtain ⟨l, hl⟩ := h2
    rw [parse_yes h0 h1 hl] at h
    split at h
    · cases h; exact absurd rfl hc
    · cases h; rfl
  · rw [parse_no h0 (fun l e => h2 ⟨l, e⟩)] at h; cases h; rfl

theorem trans2 {w w1 w2 : World} (h1 : Below w.heap.size w w1) (h2 : Below w1.heap.size w1 w2) : Below w.heap.size w w2 := h1.trans (h2.mono h1.size)

theorem cell_of_block {w : World} {b k : Nat} {xs : List ByteArray} {x : ByteArray} (h : w.heap[b]? = some (.cells (xs.map Value.string).toArray 9 (0, 0))) (hx : xs[k]? = some x) : w.cell? ⟨b, k, none⟩ = some (.string x) := by
  have := strs_of_block h k x hx
  rwa [Nat.zero_add] at this

theorem belowRoot_err {s : ByteArray} {code : Int} (h : parse s = (code, [])) (hc : code ≠ 0) (w : World) (hg : Ground w) :
    Calls Tryd.prog 56 #[.string s] w fun e w' => e = .returned (.tuple #[.slice none 0 0, .int .i64 code]) ∧ Below w.heap.size w w' := by
  have HP : Hid _ := parse_none h
  have hc' : (code != 0) = true := by simpa using hc
  have HG : Hid (Ground w) := hg
  clear hg h
  go_enter Tryd.func56, Tryd.ntmps56
  go_wp2_with (first | (go_at_call 12; refine (HP.out _ HG.out).mono ?_; rintro e w1 ⟨rfl, hb⟩; have HB : Hid _ := hb; clear hb))
  go_ret2
  exact ⟨rfl, HB.out⟩
theorem belowRoot_root {s : ByteArray} (h : parse s = (0, [])) (w : World) (hg : Ground w) :
    Calls Tryd.prog 56 #[.string s] w fun e w' => e = .returned (.tuple #[.slice none 0 0, .int .i64 47]) ∧ Below w.heap.size w w' := by
  have HP : Hid _ := parse_none h
  have HG : Hid (Ground w) := hg
  clear hg h
  go_enter Tryd.func56, Tryd.ntmps56
  go_wp2_with (first | (go_at_call 12; refine (HP.out _ HG.out).mono ?_; rintro e w1 ⟨rfl, hb⟩; have HB : Hid _ := hb; clear hb))
  go_ret2
  exact ⟨rfl, HB.out⟩
theorem belowRoot_some {s : ByteArray} {xs : List ByteArray} (h : parse s = (0, xs)) (hne : xs ≠ []) (w : World) (hg : Ground w) :
    Calls Tryd.prog 56 #[.string s] w fun e w' =>
      ∃ b, e = .returned (.tuple #[.slice (some ⟨b, 0, none⟩) xs.length xs.length, .int .i64 0]) ∧ w.heap.size ≤ b ∧ w'.heap[b]? = some (.cells (xs.map Value.string).toArray 9 (0, 0)) ∧ Below w.heap.size w w' := by
  have HP : Hid _ := parse_some h hne
  have HG : Hid (Ground w) := hg
  have hl : ((xs.length : Int) == 0) = false := by
    cases xs with
    | nil => exact absurd rfl hne
    | cons x xs => simp; omega
  clear hg h hne
  go_enter Tryd.func56, Tryd.ntmps56
  go_wp2_with (first | (go_at_call 12; refine (HP.out _ HG.out).mono ?_; rintro e w1 ⟨b, rfl, hle, hblk, hb⟩; have HB : Hid _ := hb; have HK : Hid _ := hblk; have HL : Hid _ := hle; clear hb hblk hle))
  go_ret2
  exact ⟨b, rfl, HL.out, HK.out, HB.out⟩

theorem Tryd.info5 : (Tryd.prog.info? 5).map (fun i => (i.zero, i.size, i.bytes)) = some (some (.int .u8 0), 1, 1) := by kernel_rfl

theorem conv_zeros {w : World} {base g n : Nat} (h : w.ownsRow base 5 1 (.slice (some ⟨g, 0, none⟩) n n) n (madeCells (Value.int .u8 0).cells (n * 1)).toList) :
    ∃ z : ByteArray, z.size = n ∧ (convert 104 9 (.slice (some ⟨g, 0, none⟩) n n)).run Tryd.prog w = .ok (.string z) w := by
  refine ⟨strOfNums (List.replicate n 0), by rw [strOfNums_size, List.length_replicate], ?_⟩
  refine run_convert_bytes_arg w 104 5 Tryd.underlying104 Tryd.underlying5 g 0 n n (List.replicate n 0) (by simp) (fun i hi => ?_) 9 Tryd.underlying9
  rw [Nat.zero_add, h.cellAt i (by omega)]
  simp [madeCells, Value.cells, hi, Nat.mod_one]

theorem strs_two (w : World) (x y : ByteArray) : Strs (w.alloc (.cells #[.string x, .string y] 9)) w.heap.size 0 [x, y] := strs_new w [x, y]

end Go.Proofs.YtcoicoijllpgnaaDoor
