/-
  Names and places as functions of lists of bytes.
-/
import Derived.Lib.Split
import Derived.Lib.SplitLaws
import Derived.Lib.IndexBytes
namespace Go.Proofs.YtcoicoijllpgnaaDoor
open Go

/-- May the byte stand in a name? -/
def nameB (c : UInt8) : Bool :=
  (decide (97 ≤ c.toNat ∧ c.toNat ≤ 122)) || (decide (65 ≤ c.toNat ∧ c.toNat ≤ 90)) || (decide (48 ≤ c.toNat ∧ c.toNat ≤ 57)) || (decide (c.toNat = 95)) || (decide (c.toNat = 45)) || (decide (c.toNat = 46))

/-- Is it a name? -/
def isNm (s : ByteArray) : Bool :=
  decide (1 ≤ s.size) && decide (s.size ≤ 16) && !(s.data.toList == [46]) && !(s.data.toList == [46, 46]) && s.data.toList.all nameB

def consHead (b : UInt8) : List (List UInt8) → List (List UInt8)
  | [] => [[b]]
  | x :: xs => (b :: x) :: xs

/-- The pieces between the slashes. -/
def cutL : List UInt8 → List (List UInt8)
  | [] => [[]]
  | b :: l => if b = 47 then [] :: cutL l else consHead b (cutL l)

def mk (l : List UInt8) : ByteArray := ⟨l.toArray⟩
theorem mk_data (s : ByteArray) : mk s.data.toList = s := by cases s; simp [mk]
theorem data_mk (l : List UInt8) : (mk l).data.toList = l := by simp [mk]
theorem size_mk (l : List UInt8) : (mk l).size = l.length := by simp [mk, ByteArray.size]

def cutB (s : ByteArray) : List ByteArray := (cutL s.data.toList).map mk

theorem split_eq (k : Nat) (l : List UInt8) : Lib.splitK [47] 0 (k + 1) (47 :: l) = [] :: Lib.splitK [47] 0 k l := by
  rw [Lib.splitK, Lib.index_one]
  simp [Lib.indexByte]

theorem split_ne (k : Nat) (b : UInt8) (l : List UInt8) (h : b ≠ 47) : Lib.splitK [47] 0 k (b :: l) = consHead b (Lib.splitK [47] 0 k l) := by
  cases k with
  | zero => rfl
  | succ k =>
    rw [Lib.splitK, Lib.splitK, Lib.index_one, Lib.index_one]
    have hb : (b == 47) = false := by simpa using h
    have hge := Lib.indexByte_ge l 47
    by_cases hm : Lib.indexByte l 47 = -1
    · simp [Lib.indexByte, hb, hm, consHead]
    · have hm' : (Lib.indexByte l 47 == -1) = false := by simpa using hm
      have e : Lib.indexByte (b :: l) 47 = Lib.indexByte l 47 + 1 := by simp [Lib.indexByte, hb, hm]
      have e1 : (Lib.indexByte (b :: l) 47 == -1) = false := by rw [e]; simp; omega
      have e2 : (Lib.indexByte l 47 + 1).toNat = (Lib.indexByte l 47).toNat + 1 := by omega
      rw [if_neg (by rw [e1]; simp), if_neg (by rw [hm']; simp), e, e2]
      simp [consHead]

theorem split_cut : ∀ (l : List UInt8), Lib.splitK [47] 0 (l.count 47) l = cutL l
  | [] => rfl
  | b :: l => by
    by_cases h : b = 47
    · subst h
      rw [List.count_cons_self, split_eq, split_cut l, cutL, if_pos rfl]
    · rw [List.count_cons_of_ne (fun e => h (by simpa using e)), split_ne _ _ _ h, split_cut l, cutL, if_neg h]

theorem splitB_cut (s : ByteArray) : Lib.splitB ⟨#[47]⟩ 0 (Lib.countB s ⟨#[47]⟩) s = cutB s := by
  have h := Lib.splitB_data ⟨#[47]⟩ 0 (Lib.countB s ⟨#[47]⟩) s
  have hc : Lib.countB s ⟨#[47]⟩ = s.data.toList.count 47 := Lib.count_one 47 s.data.toList
  rw [hc] at h ⊢
  have h2 : (Lib.splitB ⟨#[47]⟩ 0 (s.data.toList.count 47) s).map (·.data.toList) = cutL s.data.toList := by
    rw [h]; exact split_cut _
  unfold cutB
  rw [← h2, List.map_map]
  conv => lhs; rw [← List.map_id (Lib.splitB ⟨#[47]⟩ 0 (s.data.toList.count 47) s)]
  apply List.map_congr_left
  intro x _
  exact (mk_data x).symm

theorem cutL_length : ∀ (l : List UInt8), (cutL l).length = l.count 47 + 1
  | [] => rfl
  | b :: l => by
    rw [cutL]
    by_cases h : b = 47
    · subst h; rw [if_pos rfl, List.count_cons_self, List.length_cons, cutL_length l]
    · rw [if_neg h, List.count_cons_of_ne (fun e => h (by simpa using e)), ← cutL_length l]
      cases hc : cutL l with
      | nil => have := cutL_length l; rw [hc] at this; simp at this
      | cons x xs => rfl

theorem cutL_ne : ∀ (l : List UInt8), cutL l ≠ [] := fun l h => by
  have := cutL_length l
  rw [h] at this
  simp at this
theorem cutB_ne (s : ByteArray) : cutB s ≠ [] := fun h => cutL_ne s.data.toList (by simpa [cutB] using h)

theorem cutL_pre : ∀ (p r : List UInt8), (∀ b ∈ p, b ≠ 47) → cutL (p ++ 47 :: r) = p :: cutL r
  | [], r, _ => by rw [List.nil_append, cutL, if_pos rfl]
  | b :: p, r, h => by
    rw [List.cons_append, cutL, if_neg (h b (by simp)), cutL_pre p r (fun x hx => h x (by simp [hx]))]
    rfl
theorem cutL_all : ∀ (p : List UInt8), (∀ b ∈ p, b ≠ 47) → cutL p = [p]
  | [], _ => rfl
  | b :: p, h => by
    rw [cutL, if_neg (h b (by simp)), cutL_all p (fun x hx => h x (by simp [hx]))]
    rfl

/-- The names of a text, if it is a place: none of the root. -/
def parse (s : ByteArray) : Int × List ByteArray :=
  if 102 < s.size then (2, []) else if s.data.toList = [47] then (0, []) else
  match s.data.toList with
  | [] => (10, [])
  | b :: l => if b = 47 then (if (cutL l).length ≤ 6 ∧ ((cutL l).map mk).all isNm = true then (0, (cutL l).map mk) else (10, [])) else (10, [])
end Go.Proofs.YtcoicoijllpgnaaDoor
