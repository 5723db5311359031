import Derived.Lib.Split
import Derived.Lib.SplitLaws
import Derived.Lib.IndexBytes
import Derived.Test.YtdjfeomdiljaeaaGreatDoorRows
import Derived.Test.YtdjfeomdiljaeaaGreatDoorShelf
import Derived.WalkKit
import Derived.ProofKit
import Derived.BigQuiet
import Derived.Deep.QuietTactic
namespace Go.Proofs.YtdjfeomdiljaeaaGreatDoor
open Go

/-- May the byte stand in a name? -/
def nameB (c : UInt8) : Bool :=
  (decide (97 ≤ c.toNat ∧ c.toNat ≤ 122)) || (decide (65 ≤ c.toNat ∧ c.toNat ≤ 90)) || (decide (48 ≤ c.toNat ∧ c.toNat ≤ 57)) || (decide (c.toNat = 95)) || (decide (c.toNat = 45)) || (decide (c.toNat = 46))

/-- Is it a name? -/
def isNm (s : ByteArray) : Bool :=
  decide (1 ≤ s.size) && decide (s.size ≤ 16) && !(s.data.toList == [46]) && !(s.data.toList == [46, 46]) && s.data.toList.all nameB

def consHead (b : UInt8) : List (List UInt8) → List (List UInt8)
  | [] => [[b]]
  | x :: xs => (b :: x) :: xs

/-- The pieces between the slashes. -/
def cutL : List UInt8 → List (List UInt8)
  | [] => [[]]
  | b :: l => if b = 47 then [] :: cutL l else consHead b (cutL l)

def mk (l : List UInt8) : ByteArray := ⟨l.toArray⟩
theorem mk_data (s : ByteArray) : mk s.data.toList = s := by cases s; simp [mk]
theorem data_mk (l : List UInt8) : (mk l).data.toList = l := by simp [mk]
theorem size_mk (l : List UInt8) : (mk l).size = l.length := by simp [mk, ByteArray.size]

def cutB (s : ByteArray) : List ByteArray := (cutL s.data.toList).map mk

theorem split_eq (k : Nat) (l : List UInt8) : Lib.splitK [47] 0 (k + 1) (47 :: l) = [] :: Lib.splitK [47] 0 k l := by
  rw [Lib.splitK, Lib.index_one]
  simp [Lib.indexByte]

theorem split_ne (k : Nat) (b : UInt8) (l : List UInt8) (h : b ≠ 47) : Lib.splitK [47] 0 k (b :: l) = consHead b (Lib.splitK [47] 0 k l) := by
  cases k with
  | zero => rfl
  | succ k =>
    rw [Lib.splitK, Lib.splitK, Lib.index_one, Lib.index_one]
    have hb : (b == 47) = false := by simpa using h
    have hge := Lib.indexByte_ge l 47
    by_cases hm : Lib.indexByte l 47 = -1
    · simp [Lib.indexByte, hb, hm, consHead]
    · have hm' : (Lib.indexByte l 47 == -1) = false := by simpa using hm
      have e : Lib.indexByte (b :: l) 47 = Lib.indexByte l 47 + 1 := by simp [Lib.indexByte, hb, hm]
      have e1 : (Lib.indexByte (b :: l) 47 == -1) = false := by rw [e]; simp; omega
      have e2 : (Lib.indexByte l 47 + 1).toNat = (Lib.indexByte l 47).toNat + 1 := by omega
      rw [if_neg (by rw [e1]; simp), if_neg (by rw [hm']; simp), e, e2]
      simp [consHead]

theorem split_cut : ∀ (l : List UInt8), Lib.splitK [47] 0 (l.count 47) l = cutL l
  | [] => rfl
  | b :: l => by
    by_cases h : b = 47
    · subst h
      rw [List.count_cons_self, split_eq, split_cut l, cutL, if_pos rfl]
    · rw [List.count_cons_of_ne (fun e => h (by simpa using e)), split_ne _ _ _ h, split_cut l, cutL, if_neg h]

theorem splitB_cut (s : ByteArray) : Lib.splitB ⟨#[47]⟩ 0 (Lib.countB s ⟨#[47]⟩) s = cutB s := by
  have h := Lib.splitB_data ⟨#[47]⟩ 0 (Lib.countB s ⟨#[47]⟩) s
  have hc : Lib.countB s ⟨#[47]⟩ = s.data.toList.count 47 := Lib.count_one 47 s.data.toList
  rw [hc] at h ⊢
  have h2 : (Lib.splitB ⟨#[47]⟩ 0 (s.data.toList.count 47) s).map (·.data.toList) = cutL s.data.toList := by
    rw [h]; exact split_cut _
  unfold cutB
  rw [← h2, List.map_map]
  conv => lhs; rw [← List.map_id (Lib.splitB ⟨#[47]⟩ 0 (s.data.toList.count 47) s)]
  apply List.map_congr_left
  intro x _
  exact (mk_data x).symm

theorem cutL_length : ∀ (l : List UInt8), (cutL l).length = l.count 47 + 1
  | [] => rfl
  | b :: l => by
    rw [cutL]
    by_cases h : b = 47
    · subst h; rw [if_pos rfl, List.count_cons_self, List.length_cons, cutL_length l]
    · rw [if_neg h, List.count_cons_of_ne (fun e => h (by simpa using e)), ← cutL_length l]
      cases hc : cutL l with
      | nil => have := cutL_length l; rw [hc] at this; simp at this
      | cons x xs => rfl

theorem cutL_ne : ∀ (l : List UInt8), cutL l ≠ [] := fun l h => by
  have := cutL_length l
  rw [h] at this
  simp at this
theorem cutB_ne (s : ByteArray) : cutB s ≠ [] := fun h => cutL_ne s.data.toList (by simpa [cutB] using h)

theorem cutL_pre : ∀ (p r : List UInt8), (∀ b ∈ p, b ≠ 47) → cutL (p ++ 47 :: r) = p :: cutL r
  | [], r, _ => by rw [List.nil_append, cutL, if_pos rfl]
  | b :: p, r, h => by
    rw [List.cons_append, cutL, if_neg (h b (by simp)), cutL_pre p r (fun x hx => h x (by simp [hx]))]
    rfl
theorem cutL_all : ∀ (p : List UInt8), (∀ b ∈ p, b ≠ 47) → cutL p = [p]
  | [], _ => rfl
  | b :: p, h => by
    rw [cutL, if_neg (h b (by simp)), cutL_all p (fun x hx => h x (by simp [hx]))]
    rfl

/-- The names of a text, if it is a place: none of the root. -/
def parse (s : ByteArray) : Int × List ByteArray :=
  if 102 < s.size then (2, []) else if s.data.toList = [47] then (0, []) else
  match s.data.toList with
  | [] => (10, [])
  | b :: l => if b = 47 then (if (cutL l).length ≤ 6 ∧ ((cutL l).map mk).all isNm = true then (0, (cutL l).map mk) else (10, [])) else (10, [])
end Go.Proofs.YtdjfeomdiljaeaaGreatDoor
namespace Go.Proofs.YtdjfeomdiljaeaaGreatDoor
open Go.RowKit

/-- What the walks ask of the world: the table of the bytes of names, and the library's one number. -/
structure Ground (w : World) : Prop where
  tab : ∀ i : Nat, i < 128 → w.cell? ⟨4, i, none⟩ = some (.bool (nameB (UInt8.ofNat i)))
  most : ∃ m, w.cell? ⟨5, 0, none⟩ = some (.int .i64 m)

theorem Ground.below {w w' : World} (h : Ground w) (hb : Below w.heap.size w w') : Ground w' where
  tab i hi := by
    have h0 := h.tab i hi
    rw [hb.cell (p := ⟨4, i, none⟩) (World.block_lt_of_cell? _ _ h0)]
    exact h0
  most := by
    obtain ⟨m, h0⟩ := h.most
    refine ⟨m, ?_⟩
    rw [hb.cell (p := ⟨5, 0, none⟩) (World.block_lt_of_cell? _ _ h0)]
    exact h0

theorem isNameByte_any (c : UInt8) (w : World) (hg : Ground w) :
    Calls Tryz.prog 298 #[.int .u8 (c.toNat : Int)] w fun e w' => e = .returned (.bool (nameB c)) ∧ w' = w := by
  by_cases h : c.toNat < 128
  · have hc := hg.tab c.toNat h
    rw [UInt8.ofNat_toNat] at hc
    have h2 : (c.toNat : Int) < 128 := by omega
    clear hg
    go_enter Tryz.func298, Tryz.ntmps298
    go_wp2
    go_ret
    exact ⟨rfl, rfl⟩
  · have h2 : ¬ (c.toNat : Int) < 128 := by omega
    have h3 : (c.toNat : Int) < 256 := by have := c.toNat_lt; omega
    have e : nameB c = false := by simp [nameB]; omega
    rw [e]
    clear hg
    go_enter Tryz.func298, Tryz.ntmps298
    go_wp2
    go_ret
    exact ⟨rfl, rfl⟩

theorem nm_empty {s : ByteArray} (h : s.toList = []) : isNm s = false := by
  rw [ByteArray.toList_eq] at h
  have : s.size = 0 := by simpa using congrArg List.length h
  simp [isNm, this]
theorem nm_dot {s : ByteArray} (h : s.toList = [46]) : isNm s = false := by
  rw [ByteArray.toList_eq] at h
  simp [isNm, h]
theorem nm_dots {s : ByteArray} (h : ((s.toList.isEmpty = true ∨ (16 : Int) < (s.size : Int)) ∨ (s.toList == [46]) = true) ∨ (s.toList == [46, 46]) = true) : isNm s = false := by
  rw [ByteArray.toList_eq] at h
  rcases h with ((h | h) | h) | h
  · have : s.size = 0 := by simpa using congrArg List.length (List.isEmpty_iff.mp h)
    simp [isNm, this]
  · have : ¬ s.size ≤ 16 := by omega
    simp [isNm, this]
  · simp [isNm, h]
  · simp [isNm, h]
theorem nm_long {s : ByteArray} (h : (16 : Int) < (s.size : Int)) : isNm s = false := by
  have : ¬ s.size ≤ 16 := by omega
  simp [isNm, this]
theorem nm_bad {s : ByteArray} (k : Nat) (hk : k < s.size) (h : nameB s[k] = false) : isNm s = false := by
  have h2 : s.data.toList.all nameB = false := by
    rw [List.all_eq_false]
    exact ⟨s[k], by
      have : s[k] = s.data.toList[k]'(by simpa using hk) := rfl
      rw [this]
      exact List.getElem_mem _, by simp [h]⟩
  simp [isNm, h2]
theorem nm_step {s : ByteArray} (k : Nat) (hk : k < s.size) (h : nameB s[k] = true) (ha : (s.data.toList.take k).all nameB = true) : (s.data.toList.take (k + 1)).all nameB = true := by
  have e : s.data.toList.take (k + 1) = s.data.toList.take k ++ [s[k]] := by
    rw [List.take_succ_eq_append_getElem (by simpa using hk)]
    rfl
  rw [e, List.all_append, ha]
  simp [h]
theorem nm_good {s : ByteArray} (h : ((s.toList.isEmpty = false ∧ (s.size : Int) ≤ 16) ∧ (s.toList == [46]) = false) ∧ (s.toList == [46, 46]) = false) (ha : (s.data.toList.take s.size).all nameB = true) : isNm s = true := by
  rw [ByteArray.toList_eq] at h
  obtain ⟨⟨⟨h1, h2⟩, h3⟩, h4⟩ := h
  have e : s.data.toList.take s.size = s.data.toList := List.take_of_length_le (by simp)
  rw [e] at ha
  have h5 : 1 ≤ s.size := by
    rcases Nat.eq_zero_or_pos s.size with h0 | h0
    · have : s.data.toList = [] := List.eq_nil_of_length_eq_zero (by simpa using h0)
      rw [this] at h1
      cases h1
    · exact h0
  have h6 : s.size ≤ 16 := by omega
  simp only [isNm, h3, h4, ha, h5, h6]
  rfl

theorem isName_long (s : ByteArray) (w : World) (hg : Ground w) (h1 : ¬ s.toList = []) (h2 : (s.size : Int) ≤ 16) (h3 : (s.toList == [46]) = false) (h4 : (s.toList == [46, 46]) = false) :
    Calls Tryz.prog 293 #[.string s] w fun e w' => e = .returned (.bool (isNm s)) ∧ w' = w := by
  have HG : Hid (Ground w) := hg
  clear hg
  have h1' : s.toList.isEmpty = false := by simpa using h1
  have h2' : decide ((16 : Int) < (s.size : Int)) = false := by simpa using h2
  have h3' : ¬ s.toList = [46] := by simpa using h3
  have HH : Hid (((s.toList.isEmpty = false ∧ (s.size : Int) ≤ 16) ∧ (s.toList == [46]) = false) ∧ (s.toList == [46, 46]) = false) := ⟨⟨⟨h1', h2⟩, h3⟩, h4⟩
  have h16 : s.size ≤ 16 := by omega
  go_enter Tryz.func293, Tryz.ntmps293
  go_wp2
  clear h1 h2 h3 h4 h1' h2' h3'
  go_loop [21] (fun i => ∃ k : Nat, i = .int .i64 k ∧ k ≤ s.size ∧ (s.data.toList.take k).all nameB = true) (fun i => s.size - (intOf i).toNat)
  case atStart => exact ⟨0, rfl, by omega, rfl⟩
  case round =>
    obtain ⟨k, rfl, hk, ha⟩ := hrel
    have HA : Hid _ := ha
    clear ha
    by_cases hlt : k < s.size
    · go_wp2_with (first | (go_at_call 298; refine (isNameByte_any _ _ HG.out).mono ?_; rintro e w' ⟨rfl, rfl⟩))
      · have hn : nameB s[k] = false := by simpa using (show (!nameB s[k]) = true by assumption)
        go_ret
        exact ⟨by rw [nm_bad k hlt hn]; rfl, rfl⟩
      · have hn : nameB s[k] = true := by simpa using (show (!nameB s[k]) = false by assumption)
        go_round
        case rel => exact ⟨k + 1, by go_num, by omega, nm_step k hlt hn HA.out⟩
        case measure => simp [intOf]; omega
    · obtain rfl : k = s.size := by omega
      go_wp2
      go_ret
      exact ⟨by rw [nm_good HH.out HA.out]; rfl, rfl⟩

theorem isName_any (s : ByteArray) (w : World) (hg : Ground w) :
    Calls Tryz.prog 293 #[.string s] w fun e w' => e = .returned (.bool (isNm s)) ∧ w' = w := by
  by_cases hall : ¬ s.toList = [] ∧ (s.size : Int) ≤ 16 ∧ (s.toList == [46]) = false ∧ (s.toList == [46, 46]) = false
  · exact isName_long s w hg hall.1 hall.2.1 hall.2.2.1 hall.2.2.2
  have HN : Hid _ := hall
  clear hg hall
  go_enter Tryz.func293, Tryz.ntmps293
  go_wp2
  · have h : s.toList = [] := by assumption
    go_ret
    exact ⟨by rw [nm_empty h]; rfl, rfl⟩
  · have h : s.toList = [46] := by assumption
    go_ret
    exact ⟨by rw [nm_dot h]; rfl, rfl⟩
  · have h : ((s.toList.isEmpty = true ∨ (16 : Int) < (s.size : Int)) ∨ (s.toList == [46]) = true) ∨ (s.toList == [46, 46]) = true := by assumption
    go_ret
    exact ⟨by rw [nm_dots h]; rfl, rfl⟩
  · have h : ((s.toList.isEmpty = false ∧ (s.size : Int) ≤ 16) ∧ (s.toList == [46]) = false) ∧ (s.toList == [46, 46]) = false := by assumption
    exact absurd ⟨by simpa using h.1.1.1, h.1.1.2, h.1.2, h.2⟩ HN.out
  · have h : (16 : Int) < (s.size : Int) := by assumption
    go_ret
    exact ⟨by rw [nm_long h]; rfl, rfl⟩
end Go.Proofs.YtdjfeomdiljaeaaGreatDoor
