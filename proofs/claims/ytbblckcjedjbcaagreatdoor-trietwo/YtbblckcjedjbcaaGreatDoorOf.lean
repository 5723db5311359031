import Derived.Test.YtbblckcjedjbcaaGreatDoorLists
import Derived.Test.YtbblckcjedjbcaaGreatDoorParse
import Derived.Laws.BytesArg
import Derived.WalkMore
import Derived.WalkSmall
import Derived.Laws.Concat
namespace Go.Proofs.YtbblckcjedjbcaaGreatDoor
open Go.RowKit

end Go.Proofs.YtbblckcjedjbcaaGreatDoor
namespace Go.Proofs.YtbblckcjedjbcaaGreatDoor
open Go.RowKit

theorem parse_len {s : ByteArray} {c : Int} {xs : List ByteArray} (h : parse s = (c, xs)) : xs.length ≤ 6 ∧ xs.all isNm = true := by
  have hnil : ∀ {c' : Int}, (c', ([] : List ByteArray)) = (c, xs) → xs.length ≤ 6 ∧ xs.all isNm = true := by
    intro c' e
    cases e
    exact ⟨by simp, rfl⟩
  by_cases h0 : 102 < s.size
  · rw [parse_long h0] at h; exact hnil h
  by_cases h1 : s.data.toList = [47]
  · rw [parse_root h1] at h; exact hnil h
  by_cases h2 : ∃ l, s.data.toList = 47 :: l
  · obtain ⟨l, hl⟩ := h2
    rw [parse_yes h0 h1 hl] at h
    split at h
    · rename_i hh
      cases h
      exact ⟨by simpa using hh.1, hh.2⟩
    · exact hnil h
  · rw [parse_no h0 (fun l e => h2 ⟨l, e⟩)] at h; exact hnil h

theorem parse_code {s : ByteArray} {code : Int} {xs : List ByteArray} (h : parse s = (code, xs)) (hc : code ≠ 0) : xs = [] := by
  by_cases h0 : 102 < s.size
  · rw [parse_long h0] at h; cases h; rfl
  by_cases h1 : s.data.toList = [47]
  · rw [parse_root h1] at h; cases h; rfl
  by_cases h2 : ∃ l, s.data.toList = 47 :: l
  · obtain ⟨l, hl⟩ := h2
    rw [parse_yes h0 h1 hl] at h
    split at h
    · cases h; exact absurd rfl hc
    · cases h; rfl
  · rw [parse_no h0 (fun l e => h2 ⟨l, e⟩)] at h; cases h; rfl

theorem trans2 {w w1 w2 : World} (h1 : Below w.heap.size w w1) (h2 : Below w1.heap.size w1 w2) : Below w.heap.size w w2 := h1.trans (h2.mono h1.size)

theorem cell_of_block {w : World} {b k : Nat} {xs : List ByteArray} {x : ByteArray} (h : w.heap[b]? = some (.cells (xs.map Value.string).toArray 9 (0, 0))) (hx : xs[k]? = some x) : w.cell? ⟨b, k, none⟩ = some (.string x) := by
  have := strs_of_block h k x hx
  rwa [Nat.zero_add] at this

theorem belowRoot_err {s : ByteArray} {code : Int} (h : parse s = (code, [])) (hc : code ≠ 0) (w : World) (hg : Ground w) :
    Calls Tryz.prog 129 #[.string s] w fun e w' => e = .returned (.tuple #[.slice none 0 0, .int .i64 code]) ∧ Below w.heap.size w w' := by
  have HP : Hid _ := parse_none h
  have hc' : (code != 0) = true := by simpa using hc
  have HG : Hid (Ground w) := hg
  clear hg h
  go_enter Tryz.func129, Tryz.ntmps129
  go_wp2_with (first | (go_at_call 30; refine (HP.out _ HG.out).mono ?_; rintro e w1 ⟨rfl, hb⟩; have HB : Hid _ := hb; clear hb))
  go_ret2
  exact ⟨rfl, HB.out⟩
theorem belowRoot_root {s : ByteArray} (h : parse s = (0, [])) (w : World) (hg : Ground w) :
    Calls Tryz.prog 129 #[.string s] w fun e w' => e = .returned (.tuple #[.slice none 0 0, .int .i64 47]) ∧ Below w.heap.size w w' := by
  have HP : Hid _ := parse_none h
  have HG : Hid (Ground w) := hg
  clear hg h
  go_enter Tryz.func129, Tryz.ntmps129
  go_wp2_with (first | (go_at_call 30; refine (HP.out _ HG.out).mono ?_; rintro e w1 ⟨rfl, hb⟩; have HB : Hid _ := hb; clear hb))
  go_ret2
  exact ⟨rfl, HB.out⟩
theorem belowRoot_some {s : ByteArray} {xs : List ByteArray} (h : parse s = (0, xs)) (hne : xs ≠ []) (w : World) (hg : Ground w) :
    Calls Tryz.prog 129 #[.string s] w fun e w' =>
      ∃ b, e = .returned (.tuple #[.slice (some ⟨b, 0, none⟩) xs.length xs.length, .int .i64 0]) ∧ w.heap.size ≤ b ∧ w'.heap[b]? = some (.cells (xs.map Value.string).toArray 9 (0, 0)) ∧ Below w.heap.size w w' := by
  have HP : Hid _ := parse_some h hne
  have HG : Hid (Ground w) := hg
  have hl : ((xs.length : Int) == 0) = false := by
    cases xs with
    | nil => exact absurd rfl hne
    | cons x xs => simp; omega
  clear hg h hne
  go_enter Tryz.func129, Tryz.ntmps129
  go_wp2_with (first | (go_at_call 30; refine (HP.out _ HG.out).mono ?_; rintro e w1 ⟨b, rfl, hle, hblk, hb⟩; have HB : Hid _ := hb; have HK : Hid _ := hblk; have HL : Hid _ := hle; clear hb hblk hle))
  go_ret2
  exact ⟨b, rfl, HL.out, HK.out, HB.out⟩

theorem Tryz.info5 : (Tryz.prog.info? 5).map (fun i => (i.zero, i.size, i.bytes)) = some (some (.int .u8 0), 1, 1) := by kernel_rfl

theorem conv_zeros {w : World} {base g n : Nat} (h : w.ownsRow base 5 1 (.slice (some ⟨g, 0, none⟩) n n) n (madeCells (Value.int .u8 0).cells (n * 1)).toList) :
    ∃ z : ByteArray, z.size = n ∧ (convert 159 9 (.slice (some ⟨g, 0, none⟩) n n)).run Tryz.prog w = .ok (.string z) w := by
  refine ⟨strOfNums (List.replicate n 0), by rw [strOfNums_size, List.length_replicate], ?_⟩
  refine run_convert_bytes_arg w 159 5 Tryz.underlying159 Tryz.underlying5 g 0 n n (List.replicate n 0) (by simp) (fun i hi => ?_) 9 Tryz.underlying9
  rw [Nat.zero_add, h.cellAt i (by omega)]
  simp [madeCells, Value.cells, hi, Nat.mod_one]

theorem strs_two (w : World) (x y : ByteArray) : Strs (w.alloc (.cells #[.string x, .string y] 9)) w.heap.size 0 [x, y] := strs_new w [x, y]

end Go.Proofs.YtbblckcjedjbcaaGreatDoor
namespace Go.Proofs.YtbblckcjedjbcaaGreatDoor
open Go.RowKit

/-- Each name with a slash ahead. -/
def flatN (xs : List ByteArray) : List UInt8 := xs.flatMap fun x => 47 :: x.data.toList
/-- The place of names. -/
def placeB (xs : List ByteArray) : ByteArray := if xs = [] then mk [47] else mk (flatN xs)

theorem join_flat : ∀ (xs : List ByteArray), xs ≠ [] → 47 :: Lib.join (xs.map (·.data.toList)) [47] = flatN xs
  | [], h => absurd rfl h
  | [x], _ => by simp [Lib.join, flatN, List.intercalate]
  | x :: y :: r, _ => by
    have ih := join_flat (y :: r) (by simp)
    unfold Lib.join at ih ⊢
    simp only [flatN, List.flatMap_cons, List.map_cons, List.intercalate, List.intersperse_cons_cons, List.flatten_cons] at ih ⊢
    rw [← ih]
    simp

theorem flat_len : ∀ (xs : List ByteArray), xs.all isNm = true → (flatN xs).length ≤ 17 * xs.length
  | [], _ => by simp [flatN]
  | x :: r, h => by
    rw [List.all_cons, Bool.and_eq_true] at h
    have ih := flat_len r h.2
    have hx : x.size ≤ 16 := by
      have := h.1
      simp only [isNm, Bool.and_eq_true, decide_eq_true_eq] at this
      exact this.1.1.1.2
    simp only [flatN, List.flatMap_cons, List.length_append, List.length_cons] at ih ⊢
    have e : x.data.toList.length = x.size := by simp
    omega

theorem add_slash (l : List UInt8) : (⟨#[47]⟩ : ByteArray) ++ mk l = mk (47 :: l) := by
  show ByteArray.mk [47].toArray ++ ByteArray.mk l.toArray = _
  rw [ByteArray.mk_append_mk]
  rfl

theorem placeOf_any (a : Option Addr) (c : Nat) (xs : List ByteArray) (w : World) (hl : Lst w a xs) (hc : xs.length ≤ c) (hN : xs.length ≤ 6) (hall : xs.all isNm = true) :
    Calls Tryz.prog 130 #[.slice a xs.length c] w fun e w' => e = .returned (.string (placeB xs)) ∧ Below w.heap.size w w' := by
  have hflat := flat_len xs hall
  rcases hl with rfl | ⟨b, o, rfl, hlt, hs⟩
  · have hj : Hid (∀ w, Calls Tryz.prog 146 #[.slice a 0 c, .string ⟨#[47]⟩] w fun e w' => e = .returned (.string ⟨#[]⟩) ∧ w' = w) := fun w => Tryz.strings_Join_none a c ⟨#[47]⟩ w
    have hadd : (Op.stringOp .add (⟨#[47]⟩ : ByteArray) ⟨#[]⟩).run Tryz.prog w = .ok (.string (placeB [])) w := by
      rw [run_string_add_sum w _ _ (by decide)]
      rfl
    clear hc hN hall hflat
    go_enter Tryz.func130, Tryz.ntmps130
    go_wp2_with (first | (go_at_call 146; refine (hj.out _).mono ?_; rintro e w' ⟨rfl, rfl⟩))
    go_ret
    exact ⟨rfl, Below.refl _ _⟩
  · by_cases hx : xs = []
    · subst hx
      have hj : Hid (∀ w, Calls Tryz.prog 146 #[.slice (some ⟨b, o, none⟩) 0 c, .string ⟨#[47]⟩] w fun e w' => e = .returned (.string ⟨#[]⟩) ∧ w' = w) := fun w => Tryz.strings_Join_none _ c ⟨#[47]⟩ w
      have hadd : (Op.stringOp .add (⟨#[47]⟩ : ByteArray) ⟨#[]⟩).run Tryz.prog w = .ok (.string (placeB [])) w := by
        rw [run_string_add_sum w _ _ (by decide)]
        rfl
      clear hc hN hall hflat hs hlt
      go_enter Tryz.func130, Tryz.ntmps130
      go_wp2_with (first | (go_at_call 146; refine (hj.out _).mono ?_; rintro e w' ⟨rfl, rfl⟩))
      go_ret
      exact ⟨rfl, Below.refl _ _⟩
    · obtain ⟨j, hjd⟩ : ∃ j, j = Lib.join (xs.map (·.data.toList)) [47] := ⟨_, rfl⟩
      have hjl : j.length + 1 ≤ 102 := by
        have := congrArg List.length (join_flat xs hx)
        simp only [List.length_cons] at this
        rw [hjd]
        omega
      have hp : placeB xs = mk (47 :: j) := by rw [placeB, if_neg hx, hjd, join_flat xs hx]
      have hj : Hid (Calls Tryz.prog 146 #[.slice (some ⟨b, o, none⟩) xs.length c, .string ⟨#[47]⟩] w fun e w' => e = .returned (.string (mk j)) ∧ Below w.heap.size w w') := by
        have := Tryz.strings_Join b o c xs ⟨#[47]⟩ w hs hlt (by omega) hc (by show (Lib.join _ [47]).length ≤ _; rw [← hjd]; omega)
        refine this.mono fun e w' ⟨he, hb⟩ => ⟨?_, hb⟩
        rw [he, hjd]
        rfl
      have hadd : Hid (∀ w, (Op.stringOp .add (⟨#[47]⟩ : ByteArray) (mk j)).run Tryz.prog w = .ok (.string (placeB xs)) w) := fun w => by
        have h47 : (⟨#[47]⟩ : ByteArray).size = 1 := rfl
        rw [run_string_add_sum w _ _ (by rw [size_mk, h47]; omega), add_slash, hp]
      clear hp hjd hjl hc hN hall hflat hs hlt hx
      generalize mk j = js at *
      generalize placeB xs = pb at *
      go_enter Tryz.func130, Tryz.ntmps130
      go_wp2_with (first | (go_at_call 146; refine Calls.mono hj.out ?_; rintro e w1 ⟨rfl, hb⟩; have HB : Hid _ := hb; clear hb; have hadd1 := hadd.out w1))
      go_ret
      exact ⟨rfl, HB.out⟩
end Go.Proofs.YtbblckcjedjbcaaGreatDoor
