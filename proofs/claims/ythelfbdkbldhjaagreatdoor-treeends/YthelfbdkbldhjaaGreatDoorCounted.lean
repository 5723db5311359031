/-
  texts of the same list twice.
-/
import Derived.Test.YthelfbdkbldhjaaGreatDoorParse
import Derived.Laws.BytesArg
import Derived.WalkMore
import Derived.WalkSmall
import Derived.Laws.Concat
import Derived.Lib.AppendIntMem
import Derived.Lib.LaidTab
import Derived.Lib.Repeat
namespace Go.Proofs.YthelfbdkbldhjaaGreatDoor
open Go.RowKit

end Go.Proofs.YthelfbdkbldhjaaGreatDoor
namespace Go.Proofs.YthelfbdkbldhjaaGreatDoor
open Go.RowKit

theorem parse_len {s : ByteArray} {c : Int} {xs : List ByteArray} (h : parse s = (c, xs)) : xs.length ≤ 6 ∧ xs.all isNm = true := by
  have hnil : ∀ {c' : Int}, (c', ([] : List ByteArray)) = (c, xs) → xs.length ≤ 6 ∧ xs.all isNm = true := by
    intro c' e
    cases e
    exact ⟨by simp, rfl⟩
  by_cases h0 : 102 < s.size
  · rw [parse_long h0] at h; exact hnil h
  by_cases h1 : s.data.toList = [47]
  · rw [parse_root h1] at h; exact hnil h
  by_cases h2 : ∃ l, s.data.toList = 47 :: l
  · obtain ⟨l, hl⟩ := h2
    rw [parse_yes h0 h1 hl] at h
    split at h
    · rename_i hh
      cases h
      exact ⟨by simpa using hh.1, hh.2⟩
    · exact hnil h
  · rw [parse_no h0 (fun l e => h2 ⟨l, e⟩)] at h; exact hnil h

theorem parse_code {s : ByteArray} {code : Int} {xs : List ByteArray} (h : parse s = (code, xs)) (hc : code ≠ 0) : xs = [] := by
  by_cases h0 : 102 < s.size
  · rw [parse_long h0] at h; cases h; rfl
  by_cases h1 : s.data.toList = [47]
  · rw [parse_root h1] at h; cases h; rfl
  by_cases h2 : ∃ l, s.data.toList = 47 :: l
  · obtain ⟨l, hl⟩ := h2
    rw [parse_yes h0 h1 hl] at h
    split at h
    · cases h; exact absurd rfl hc
    · cases h; rfl
  · rw [parse_no h0 (fun l e => h2 ⟨l, e⟩)] at h; cases h; rfl

theorem trans2 {w w1 w2 : World} (h1 : Below w.heap.size w w1) (h2 : Below w1.heap.size w1 w2) : Below w.heap.size w w2 := h1.trans (h2.mono h1.size)

theorem cell_of_block {w : World} {b k : Nat} {xs : List ByteArray} {x : ByteArray} (h : w.heap[b]? = some (.cells (xs.map Value.string).toArray 9 (0, 0))) (hx : xs[k]? = some x) : w.cell? ⟨b, k, none⟩ = some (.string x) := by
  have := strs_of_block h k x hx
  rwa [Nat.zero_add] at this

theorem belowRoot_err {s : ByteArray} {code : Int} (h : parse s = (code, [])) (hc : code ≠ 0) (w : World) (hg : Ground w) :
    Calls Tryz.prog 108 #[.string s] w fun e w' => e = .returned (.tuple #[.slice none 0 0, .int .i64 code]) ∧ Below w.heap.size w w' := by
  have HP : Hid _ := parse_none h
  have hc' : (code != 0) = true := by simpa using hc
  have HG : Hid (Ground w) := hg
  clear hg h
  go_enter Tryz.func108, Tryz.ntmps108
  go_wp2_with (first | (go_at_call 44; refine (HP.out _ HG.out).mono ?_; rintro e w1 ⟨rfl, hb⟩; have HB : Hid _ := hb; clear hb))
  go_ret2
  exact ⟨rfl, HB.out⟩
theorem belowRoot_root {s : ByteArray} (h : parse s = (0, [])) (w : World) (hg : Ground w) :
    Calls Tryz.prog 108 #[.string s] w fun e w' => e = .returned (.tuple #[.slice none 0 0, .int .i64 47]) ∧ Below w.heap.size w w' := by
  have HP : Hid _ := parse_none h
  have HG : Hid (Ground w) := hg
  clear hg h
  go_enter Tryz.func108, Tryz.ntmps108
  go_wp2_with (first | (go_at_call 44; refine (HP.out _ HG.out).mono ?_; rintro e w1 ⟨rfl, hb⟩; have HB : Hid _ := hb; clear hb))
  go_ret2
  exact ⟨rfl, HB.out⟩
theorem belowRoot_some {s : ByteArray} {xs : List ByteArray} (h : parse s = (0, xs)) (hne : xs ≠ []) (w : World) (hg : Ground w) :
    Calls Tryz.prog 108 #[.string s] w fun e w' =>
      ∃ b, e = .returned (.tuple #[.slice (some ⟨b, 0, none⟩) xs.length xs.length, .int .i64 0]) ∧ w.heap.size ≤ b ∧ w'.heap[b]? = some (.cells (xs.map Value.string).toArray 9 (0, 0)) ∧ Below w.heap.size w w' := by
  have HP : Hid _ := parse_some h hne
  have HG : Hid (Ground w) := hg
  have hl : ((xs.length : Int) == 0) = false := by
    cases xs with
    | nil => exact absurd rfl hne
    | cons x xs => simp; omega
  clear hg h hne
  go_enter Tryz.func108, Tryz.ntmps108
  go_wp2_with (first | (go_at_call 44; refine (HP.out _ HG.out).mono ?_; rintro e w1 ⟨b, rfl, hle, hblk, hb⟩; have HB : Hid _ := hb; have HK : Hid _ := hblk; have HL : Hid _ := hle; clear hb hblk hle))
  go_ret2
  exact ⟨b, rfl, HL.out, HK.out, HB.out⟩

theorem Tryz.info5 : (Tryz.prog.info? 5).map (fun i => (i.zero, i.size, i.bytes)) = some (some (.int .u8 0), 1, 1) := by kernel_rfl

theorem conv_zeros {w : World} {base g n : Nat} (h : w.ownsRow base 5 1 (.slice (some ⟨g, 0, none⟩) n n) n (madeCells (Value.int .u8 0).cells (n * 1)).toList) :
    ∃ z : ByteArray, z.size = n ∧ (convert 83 9 (.slice (some ⟨g, 0, none⟩) n n)).run Tryz.prog w = .ok (.string z) w := by
  refine ⟨strOfNums (List.replicate n 0), by rw [strOfNums_size, List.length_replicate], ?_⟩
  refine run_convert_bytes_arg w 83 5 Tryz.underlying83 Tryz.underlying5 g 0 n n (List.replicate n 0) (by simp) (fun i hi => ?_) 9 Tryz.underlying9
  rw [Nat.zero_add, h.cellAt i (by omega)]
  simp [madeCells, Value.cells, hi, Nat.mod_one]

end Go.Proofs.YthelfbdkbldhjaaGreatDoor
namespace Go.Proofs.YthelfbdkbldhjaaGreatDoor
open Go.RowKit

/-- Each name with a slash ahead. -/
def flatN (xs : List ByteArray) : List UInt8 := xs.flatMap fun x => 47 :: x.data.toList
/-- The place of names. -/
def placeB (xs : List ByteArray) : ByteArray := if xs = [] then mk [47] else mk (flatN xs)

theorem join_flat : ∀ (xs : List ByteArray), xs ≠ [] → 47 :: Lib.join (xs.map (·.data.toList)) [47] = flatN xs
  | [], h => absurd rfl h
  | [x], _ => by simp [Lib.join, flatN, List.intercalate]
  | x :: y :: r, _ => by
    have ih := join_flat (y :: r) (by simp)
    unfold Lib.join at ih ⊢
    simp only [flatN, List.flatMap_cons, List.map_cons, List.intercalate, List.intersperse_cons_cons, List.flatten_cons] at ih ⊢
    rw [← ih]
    simp

theorem flat_len : ∀ (xs : List ByteArray), xs.all isNm = true → (flatN xs).length ≤ 17 * xs.length
  | [], _ => by simp [flatN]
  | x :: r, h => by
    rw [List.all_cons, Bool.and_eq_true] at h
    have ih := flat_len r h.2
    have hx : x.size ≤ 16 := by
      have := h.1
      simp only [isNm, Bool.and_eq_true, decide_eq_true_eq] at this
      exact this.1.1.1.2
    simp only [flatN, List.flatMap_cons, List.length_append, List.length_cons] at ih ⊢
    have e : x.data.toList.length = x.size := by simp
    omega

theorem add_slash (l : List UInt8) : (⟨#[47]⟩ : ByteArray) ++ mk l = mk (47 :: l) := by
  show ByteArray.mk [47].toArray ++ ByteArray.mk l.toArray = _
  rw [ByteArray.mk_append_mk]
  rfl

theorem placeOf_any (a : Option Addr) (c : Nat) (xs : List ByteArray) (w : World) (hl : Lst w a xs) (hc : xs.length ≤ c) (hN : xs.length ≤ 6) (hall : xs.all isNm = true) :
    Calls Tryz.prog 127 #[.slice a xs.length c] w fun e w' => e = .returned (.string (placeB xs)) ∧ Below w.heap.size w w' := by
  have hflat := flat_len xs hall
  rcases hl with rfl | ⟨b, o, rfl, hlt, hs⟩
  · have hj : Hid (∀ w, Calls Tryz.prog 143 #[.slice a 0 c, .string ⟨#[47]⟩] w fun e w' => e = .returned (.string ⟨#[]⟩) ∧ w' = w) := fun w => Tryz.strings_Join_none a c ⟨#[47]⟩ w
    have hadd : (Op.stringOp .add (⟨#[47]⟩ : ByteArray) ⟨#[]⟩).run Tryz.prog w = .ok (.string (placeB [])) w := by
      rw [run_string_add_sum w _ _ (by decide)]
      rfl
    clear hc hN hall hflat
    go_enter Tryz.func127, Tryz.ntmps127
    go_wp2_with (first | (go_at_call 143; refine (hj.out _).mono ?_; rintro e w' ⟨rfl, rfl⟩))
    go_ret
    exact ⟨rfl, Below.refl _ _⟩
  · by_cases hx : xs = []
    · subst hx
      have hj : Hid (∀ w, Calls Tryz.prog 143 #[.slice (some ⟨b, o, none⟩) 0 c, .string ⟨#[47]⟩] w fun e w' => e = .returned (.string ⟨#[]⟩) ∧ w' = w) := fun w => Tryz.strings_Join_none _ c ⟨#[47]⟩ w
      have hadd : (Op.stringOp .add (⟨#[47]⟩ : ByteArray) ⟨#[]⟩).run Tryz.prog w = .ok (.string (placeB [])) w := by
        rw [run_string_add_sum w _ _ (by decide)]
        rfl
      clear hc hN hall hflat hs hlt
      go_enter Tryz.func127, Tryz.ntmps127
      go_wp2_with (first | (go_at_call 143; refine (hj.out _).mono ?_; rintro e w' ⟨rfl, rfl⟩))
      go_ret
      exact ⟨rfl, Below.refl _ _⟩
    · obtain ⟨j, hjd⟩ : ∃ j, j = Lib.join (xs.map (·.data.toList)) [47] := ⟨_, rfl⟩
      have hjl : j.length + 1 ≤ 102 := by
        have := congrArg List.length (join_flat xs hx)
        simp only [List.length_cons] at this
        rw [hjd]
        omega
      have hp : placeB xs = mk (47 :: j) := by rw [placeB, if_neg hx, hjd, join_flat xs hx]
      have hj : Hid (Calls Tryz.prog 143 #[.slice (some ⟨b, o, none⟩) xs.length c, .string ⟨#[47]⟩] w fun e w' => e = .returned (.string (mk j)) ∧ Below w.heap.size w w') := by
        have := Tryz.strings_Join b o c xs ⟨#[47]⟩ w hs hlt (by omega) hc (by show (Lib.join _ [47]).length ≤ _; rw [← hjd]; omega)
        refine this.mono fun e w' ⟨he, hb⟩ => ⟨?_, hb⟩
        rw [he, hjd]
        rfl
      have hadd : Hid (∀ w, (Op.stringOp .add (⟨#[47]⟩ : ByteArray) (mk j)).run Tryz.prog w = .ok (.string (placeB xs)) w) := fun w => by
        have h47 : (⟨#[47]⟩ : ByteArray).size = 1 := rfl
        rw [run_string_add_sum w _ _ (by rw [size_mk, h47]; omega), add_slash, hp]
      clear hp hjd hjl hc hN hall hflat hs hlt hx
      generalize mk j = js at *
      generalize placeB xs = pb at *
      go_enter Tryz.func127, Tryz.ntmps127
      go_wp2_with (first | (go_at_call 143; refine Calls.mono hj.out ?_; rintro e w1 ⟨rfl, hb⟩; have HB : Hid _ := hb; clear hb; have hadd1 := hadd.out w1))
      go_ret
      exact ⟨rfl, HB.out⟩
end Go.Proofs.YthelfbdkbldhjaaGreatDoor
namespace Go.Proofs.YthelfbdkbldhjaaGreatDoor
open Go.RowKit

/-- A number's five digits. -/
def five (n : Nat) : List UInt8 := [UInt8.ofNat (48 + n / 10000 % 10), UInt8.ofNat (48 + n / 1000 % 10), UInt8.ofNat (48 + n / 100 % 10), UInt8.ofNat (48 + n / 10 % 10), UInt8.ofNat (48 + n % 10)]

theorem dec_step {n : Nat} (h : ¬ n < 10) : Lib.decDigits n = Lib.decDigits (n / 10) ++ [UInt8.ofNat (48 + n % 10)] := by rw [Lib.decDigits, dif_neg h]

theorem five_eq {n : Nat} (hn : n < 100000) : Lib.repeatL [48] (5 - (Lib.decDigits n).length) ++ Lib.decDigits n = five n := by
  have z : ∀ m, m = 0 → UInt8.ofNat (48 + m) = 48 := fun m h => by rw [h]; rfl
  by_cases h1 : n < 10
  · rw [Lib.decDigits_one h1]
    simp only [five, z (n / 10000 % 10) (by omega), z (n / 1000 % 10) (by omega), z (n / 100 % 10) (by omega), z (n / 10 % 10) (by omega), show n % 10 = n by omega]
    rfl
  by_cases h2 : n < 100
  · rw [Lib.decDigits_two h1 h2]
    simp only [five, z (n / 10000 % 10) (by omega), z (n / 1000 % 10) (by omega), z (n / 100 % 10) (by omega), show n / 10 % 10 = n / 10 by omega]
    rfl
  by_cases h3 : n < 1000
  · rw [dec_step h1, Lib.decDigits_two (i := n / 10) (by omega) (by omega)]
    simp only [five, z (n / 10000 % 10) (by omega), z (n / 1000 % 10) (by omega), show n / 100 % 10 = n / 10 / 10 by omega]
    rfl
  by_cases h4 : n < 10000
  · rw [dec_step h1, dec_step (n := n / 10) (by omega), Lib.decDigits_two (i := n / 10 / 10) (by omega) (by omega)]
    simp only [five, z (n / 10000 % 10) (by omega), show n / 1000 % 10 = n / 10 / 10 / 10 by omega, show n / 100 % 10 = n / 10 / 10 % 10 by omega]
    rfl
  · rw [dec_step h1, dec_step (n := n / 10) (by omega), dec_step (n := n / 10 / 10) (by omega), Lib.decDigits_two (i := n / 10 / 10 / 10) (by omega) (by omega)]
    simp only [five, show n / 10000 % 10 = n / 10 / 10 / 10 / 10 by omega, show n / 1000 % 10 = n / 10 / 10 / 10 % 10 by omega, show n / 100 % 10 = n / 10 / 10 % 10 by omega]
    rfl
theorem dec_len {n : Nat} (hn : n < 100000) : 1 ≤ (Lib.decDigits n).length ∧ (Lib.decDigits n).length ≤ 5 := by
  by_cases h1 : n < 10
  · rw [Lib.decDigits_one h1]; simp
  by_cases h2 : n < 100
  · rw [Lib.decDigits_two h1 h2]; simp
  by_cases h3 : n < 1000
  · rw [dec_step h1, Lib.decDigits_two (i := n / 10) (by omega) (by omega)]; simp
  by_cases h4 : n < 10000
  · rw [dec_step h1, dec_step (n := n / 10) (by omega), Lib.decDigits_two (i := n / 10 / 10) (by omega) (by omega)]; simp
  · rw [dec_step h1, dec_step (n := n / 10) (by omega), dec_step (n := n / 10 / 10) (by omega), Lib.decDigits_two (i := n / 10 / 10 / 10) (by omega) (by omega)]; simp

/-- What a walk over Itoa asks besides. -/
structure GroundC (w : World) : Prop extends Ground w where
  pow : Lib.TabIs Tryz.prog w "internal/strconv.uint64pow10" .u64 Lib.pow10Tab

theorem gPow : Tryz.prog.globalNamed "internal/strconv.uint64pow10" = some 5 := by kernel_rfl
theorem GroundC.below {w w' : World} (h : GroundC w) (hb : Below w.heap.size w w') : GroundC w' where
  toGround := h.toGround.below hb
  pow := by
    have hc := h.pow.cell gPow 0 (by decide)
    exact var?_below hb gPow (World.block_lt_of_cell? _ _ hc) h.pow

theorem itoa_any (n : Nat) (hn : n < 100000) (w : World) (hg : GroundC w) :
    Calls Tryz.prog 109 #[.int .i64 (n : Int)] w fun e w' => e = .returned (.string (mk (Lib.decDigits n))) ∧ Below w.heap.size w w' := by
  refine (Tryz.strconv_Itoa (n : Int) (by omega) (by omega) w hg.pow).mono ?_
  rintro e w' ⟨he, k, os, rfl⟩
  exact ⟨by rw [he, Lib.itoa_nonneg]; rfl, Lib.below_grow _ _ (Nat.le_refl _) _ _⟩

theorem parse_size {s : ByteArray} {xs : List ByteArray} (h : parse s = (0, xs)) : s.size ≤ 102 := by
  rcases Nat.lt_or_ge 102 s.size with h0 | h0
  · rw [parse_long h0] at h; cases h
  · exact h0

theorem counted_good {n : Nat} (hn : n ≤ 99999) {s : ByteArray} {xs : List ByteArray} (h : parse s = (0, xs)) (k : Nat) (hk : xs.length = k + 1) (x : ByteArray) (hx : xs[k]? = some x) (hl : x.size ≤ 11) (w : World) (hg : GroundC w) :
    Calls Tryz.prog 88 #[.string s, .int .i64 (n : Int)] w fun e w' => e = .returned (.tuple #[.string (mk (s.data.toList ++ five n)), .int .i64 0]) ∧ Below w.heap.size w w' := by
  have hs := parse_size h
  have HP : Hid _ := belowRoot_some h (fun e => by rw [e] at hk; simp at hk)
  have HG : Hid (GroundC w) := hg
  have HX : Hid (xs[k]? = some x) := hx
  have hl' : ¬ (11 : Int) < (x.size : Int) := by omega
  have hkm : k ≤ 5 := by have := (parse_len h).1; omega
  have hd := dec_len (n := n) (by omega)
  have h5 := five_eq (n := n) (by omega)
  obtain ⟨D, hD⟩ : ∃ D, mk (Lib.decDigits n) = D := ⟨_, rfl⟩
  obtain ⟨d, hds⟩ : ∃ d, (Lib.decDigits n).length = d := ⟨_, rfl⟩
  have hDs : D.size = d := by rw [← hD, size_mk, hds]
  obtain ⟨Z, hZ⟩ : ∃ Z, mk (Lib.repeatL [48] (5 - d)) = Z := ⟨_, rfl⟩
  have hZs : Z.size ≤ 5 := by
    rw [← hZ, size_mk]
    have := congrArg List.length h5
    simp only [List.length_append, hds, five, List.length_cons, List.length_nil] at this
    omega
  have HI : Hid (∀ w, GroundC w → Calls Tryz.prog 109 #[.int .i64 (n : Int)] w fun e w' => e = .returned (.string D) ∧ Below w.heap.size w w') := fun w hg => by
    rw [← hD]
    exact itoa_any n (by omega) w hg
  have HR : Hid (∀ w, Calls Tryz.prog 110 #[.string ⟨#[48]⟩, .int .i64 (5 - (d : Int))] w fun e w' => e = .returned (.string Z) ∧ Below w.heap.size w w') := fun w => by
    have e : (5 - (d : Int)) = ((5 - d : Nat) : Int) := by omega
    have h48 : (⟨#[48]⟩ : ByteArray).size = 1 := rfl
    have := Tryz.strings_Repeat ⟨#[48]⟩ (5 - d) w (by omega) (by rw [h48]; omega)
    rw [e, ← hZ]
    exact this
  obtain ⟨R, hR⟩ : ∃ R, mk (s.data.toList ++ five n) = R := ⟨_, rfl⟩
  rw [hR]
  have HA1 : Hid (∀ w, (Op.stringOp .add s Z).run Tryz.prog w = .ok (.string (s ++ Z)) w) := fun w => run_string_add_sum w _ _ (by omega)
  have HA2 : Hid (∀ w, (Op.stringOp .add (s ++ Z) D).run Tryz.prog w = .ok (.string R) w) := fun w => by
    rw [run_string_add_sum w _ _ (by rw [ByteArray.size_append]; omega)]
    have : s ++ Z ++ D = R := by
      rw [← hR, ← h5, ← hD, ← hZ, hds]
      conv => lhs; rw [← mk_data s]
      have h1 : mk s.data.toList ++ mk (Lib.repeatL [48] (5 - d)) = mk (s.data.toList ++ Lib.repeatL [48] (5 - d)) := ByteArray.mk_append_mk _ _
      have h2 : mk (s.data.toList ++ Lib.repeatL [48] (5 - d)) ++ mk (Lib.decDigits n) = mk (s.data.toList ++ Lib.repeatL [48] (5 - d) ++ Lib.decDigits n) := ByteArray.mk_append_mk _ _
      rw [h1, h2, List.append_assoc]
    rw [this]
  have hd5 : d ≤ 5 := by omega
  have hn1 : ¬ (n : Int) < 0 := by omega
  have hn2 : ¬ (99999 : Int) < (n : Int) := by omega
  clear hg h hx hl hd h5 hD hds hZ hZs hR hs
  go_enter Tryz.func88, Tryz.ntmps88
  go_wp2_with fail
  refine (HP.out _ HG.out.toGround).mono ?_
  rintro e w1 ⟨b, rfl, hle, hblk, hb⟩
  have hcell := cell_of_block hblk HX.out
  have HB : Hid _ := hb
  clear hb hle hblk
  go_wp2_with fail
  refine (HI.out _ (HG.out.below HB.out)).mono ?_
  rintro e w2 ⟨rfl, hb2⟩
  have HB2 : Hid _ := trans2 HB.out hb2
  clear hb2 hcell
  go_wp2_with fail
  refine (HR.out _).mono ?_
  rintro e w3 ⟨rfl, hb3⟩
  have HB3 : Hid _ := trans2 HB2.out hb3
  have ha1 := HA1.out w3
  have ha2 := HA2.out w3
  clear hb3
  go_wp2
  go_ret2
  exact ⟨rfl, HB3.out⟩
end Go.Proofs.YthelfbdkbldhjaaGreatDoor
