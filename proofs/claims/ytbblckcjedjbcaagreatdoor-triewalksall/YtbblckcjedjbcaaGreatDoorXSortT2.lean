import Derived.Test.YtbblckcjedjbcaaGreatDoorXAlong
import Derived.Test.YtbblckcjedjbcaaGreatDoorShelfG
import Derived.Shelf.SlSortCmp.WholeK
import Derived.Sort.OwnSorted
namespace Go.Proofs.YtbblckcjedjbcaaGreatDoor
open Go.RowKit Go.Maps Go.Sort Go.Shelf
set_option linter.unusedVariables false
set_option linter.unusedSimpArgs false

abbrev Tg := Int × Int
def encT (t : Tg) : List Value := [.int .i64 t.1, .int .i64 t.2]
def cfT (a b : Tg) : Int := ctI a.1 a.2 b.1 b.2
def befT (a b : Tg) : Bool := befB a.1 a.2 b.1 b.2
theorem ltT (a b : Tg) : ltOf cfT a b = befT a b := by
  rw [Bool.eq_iff_iff]
  unfold ltOf cfT befT
  rw [← ct_neg]
  simp
theorem bef_cotrans {a b c d e f : Int} (h1 : befB a b c d = false) (h2 : befB c d e f = false) : befB a b e f = false := by
  unfold befB at *
  simp only [Bool.or_eq_false_iff, Bool.and_eq_false_iff, decide_eq_false_iff_not] at *
  omega
theorem swoT : SWO (ltOf cfT) where
  irrefl x := by rw [ltT]; exact bef_irr _ _
  trans x y z h1 h2 := by rw [ltT] at *; exact bef_trans h1 h2
  ntrans x y z h1 h2 := by rw [ltT] at *; exact bef_cotrans h1 h2
theorem cmpT (blk off size : Nat) (w : World) : CmpLays Tryz.prog 35 #[] encT 2 cfT blk off size w := by
  intro m os dk _ x y
  refine (order_tags x.1 x.2 y.1 y.2 _).mono ?_
  rintro e w' ⟨he, n, os', hw⟩
  exact ⟨he, n, os', hw⟩
end Go.Proofs.YtbblckcjedjbcaaGreatDoor
namespace Go.Proofs.YtbblckcjedjbcaaGreatDoor
open Go.RowKit Go.Maps Go.Sort Go.Shelf
set_option linter.unusedVariables false
set_option linter.unusedSimpArgs false

def tgCs (ts : List Tg) : List Value := ts.flatMap encT
theorem tgCs_len (ts : List Tg) : (tgCs ts).length = ts.length * 2 := by
  induction ts with
  | nil => rfl
  | cons t r ih =>
    have e : tgCs (t :: r) = .int .i64 t.1 :: .int .i64 t.2 :: tgCs r := rfl
    rw [e, List.length_cons, List.length_cons, List.length_cons, ih]
    omega
theorem tgCs_append (a b : List Tg) : tgCs (a ++ b) = tgCs a ++ tgCs b := by simp [tgCs]
theorem tgCs_at (ts : List Tg) (t : Nat) (h : t < ts.length * 2) : (tgCs ts)[t]? = some ((encT ts.toArray[t / 2]!)[t % 2]!) := by
  induction ts generalizing t with
  | nil => simp at h
  | cons a r ih =>
    have e : tgCs (a :: r) = .int .i64 a.1 :: .int .i64 a.2 :: tgCs r := rfl
    rw [e]
    match t with
    | 0 => simp [encT]
    | 1 => simp [encT]
    | t + 2 =>
      have h1 := ih t (by simp at h; omega)
      have e1 : (t + 2) / 2 = t / 2 + 1 := by omega
      have e2 : (t + 2) % 2 = t % 2 := by omega
      rw [e1, e2, List.getElem?_cons_succ, List.getElem?_cons_succ, h1]
      simp
theorem flatT (ts : List Tg) : (flatK encT 2 ts.toArray).toList = tgCs ts := by
  apply List.ext_getElem?
  intro j
  by_cases hj : j < ts.length * 2
  · rw [tgCs_at ts j hj, Array.getElem?_toList]
    have hs : j < (flatK encT 2 ts.toArray).size := by simp; omega
    rw [Array.getElem?_eq_getElem hs, ← getElem!_pos _ j hs, get_flatK _ _ _ _ (by simpa using hj)]
  · rw [List.getElem?_eq_none (by simp; omega), List.getElem?_eq_none (by rw [tgCs_len]; omega)]
theorem heap_putId {w : World} {g n : Nat} {os : Array Obj} {cur : Array Value} {e : TypeId} {fr : Nat × Nat} (F : Array Value) (hb : w.heap[g]? = some (.cells cur e fr)) :
    (grow (putRow id (Sort.ahead w n) g 0 F) os).heap[g]? = some (.cells (putCells id 0 F cur) e fr) := by
  have hg : g < w.heap.size := (Array.getElem?_eq_some_iff.1 hb).1
  rw [heap_grow_old _ _ (by simpa using hg)]
  simp [putRow, mapBlock, Sort.ahead, Array.getElem?_modify, hb, onCells]
theorem grown_putId {w : World} {g n : Nat} {os : Array Obj} (F : Array Value) : w.grownBy (grow (putRow id (Sort.ahead w n) g 0 F) os) (some g) := by
  refine ⟨rfl, rfl, rfl, by simp, fun k hk hne => ?_⟩
  rw [heap_grow_old _ _ (by simpa using hk)]
  have : g ≠ k := fun e => hne (by rw [e])
  simp [putRow, mapBlock, Sort.ahead, Array.getElem?_modify, this]
theorem take_putId (cur F : Array Value) (h : F.size ≤ cur.size) : (putCells id 0 F cur).toList.take F.size = F.toList := by
  apply List.ext_getElem?
  intro j
  by_cases hj : j < F.size
  · rw [List.getElem?_take_of_lt hj, Array.getElem?_toList]
    simp [putCells, hj, show j < cur.size by omega]
  · rw [List.getElem?_take_eq_none (by omega), List.getElem?_eq_none (by simp; omega)]
theorem encT_len (t : Tg) : (encT t).length = 2 := rfl
theorem encT_one (t : Tg) : ∀ v ∈ encT t, v.oneCell' = true := by
  intro v hv
  simp [encT] at hv
  rcases hv with rfl | rfl <;> rfl
abbrev ordTV : Value := .func (.func 35) #[] #[]
set_option maxHeartbeats 4000000 in
theorem sortTags (base g cap : Nat) (ts : List Tg) (w : World) (ho : w.ownsRow base 34 2 (.slice (some ⟨g, 0, none⟩) ts.length cap) ts.length (tgCs ts)) (hl : ts.length ≤ 100000) :
    Calls Tryz.prog 34 #[.slice (some ⟨g, 0, none⟩) ts.length cap, ordTV] w fun e w' => e = .returned (.tuple #[]) ∧ ∃ us : List Tg, us.Perm ts ∧ us.Pairwise (fun a b => befT b a = false) ∧ w'.ownsRow base 34 2 (.slice (some ⟨g, 0, none⟩) ts.length cap) ts.length (tgCs us) ∧ w.grownBy w' (some g) := by
  rcases ho.2 with ⟨h0, _⟩ | ⟨g', cap', cur, hv, hB, hg, hn, hc, hsz, ht⟩
  · cases h0
  obtain ⟨rfl, rfl⟩ : g = g' ∧ cap = cap' := by
    simp only [Value.slice.injEq, Option.some.injEq, Addr.mk.injEq] at hv
    exact ⟨hv.1.1, hv.2.2⟩
  have hH : HoldsK encT 2 w g 0 ts.toArray := by
    intro j hj
    have hj' : j < ts.length * 2 := by simpa using hj
    rw [get_flatK _ _ _ _ (by simpa using hj')]
    refine ⟨?_, by simp [World.frozen?, hg]⟩
    have h1 := cell_n ho (tgCs_at ts j hj')
    rw [Nat.zero_add]
    exact h1
  have hcon := AnyQ.slices_SortFunc Tryz.sortT 2 (by intro w; kernel_rfl) (by intro w; kernel_rfl) encT encT_len encT_one cfT swoT 35 #[] g 0 cap ts.toArray w (enters_of Tryz.func35 (by kernel_rfl) rfl) (cmpT g 0 ts.toArray.size w) hH (lt_of_blk hg) (by simp; omega)
  have HCON : Calls Tryz.prog 34 #[.slice (some ⟨g, 0, none⟩) ts.length cap, ordTV] w fun e w' => e = .returned (.tuple #[]) ∧ ∃ d' n os, PermIn 0 ts.toArray.size ts.toArray d' ∧ SortedIn (ltOf cfT) 0 ts.toArray.size d' ∧ w' = sortWorldK encT 2 w g 0 n d' os := hcon
  refine Calls.mono HCON ?_
  rintro e w2 ⟨rfl, d', nn, os, hpm, hso, rfl⟩
  obtain ⟨us, rfl⟩ : ∃ us : List Tg, d' = us.toArray := ⟨d'.toList, by simp⟩
  have hlu : us.length = ts.length := by simpa using hpm.1
  have hpp : us.Perm ts := by
    have := hpm.2.2
    simpa [hlu, List.take_of_length_le] using this
  refine ⟨rfl, us, hpp, ?_, ?_, grown_putId _⟩
  · rw [List.pairwise_iff_getElem]
    intro i j hi hj hij
    have hs := hso i j (Nat.zero_le _) hij (by simp; omega)
    have e1 : us.toArray[j]! = us[j] := by simp [hj]
    have e2 : us.toArray[i]! = us[i] := by simp [hi]
    rw [e1, e2, ltT] at hs
    exact hs
  · refine ⟨by rw [tgCs_len, hlu], .inr ⟨g, cap, _, rfl, hB, heap_putId _ hg, hn, hc, by simp [putCells, hsz], ?_⟩⟩
    have h1 := take_putId cur (flatK encT 2 us.toArray) (by simp; omega)
    rw [flatT] at h1
    have e : (flatK encT 2 us.toArray).size = ts.length * 2 := by simp [hlu]
    rw [e] at h1
    exact h1
set_option maxHeartbeats 4000000 in
set_option maxRecDepth 100000 in
theorem sortNil (w : World) :
    Calls Tryz.prog 34 #[.slice none 0 0, ordTV] w fun e w' => e = .returned (.tuple #[]) ∧ Below w.heap.size w w' := by
  go_enter Tryz.func34, Tryz.ntmps34
  go_wp2_with (first | go_in | fail)
  refine wp_loop_rounds 1 ?_
  rw [rounds_succ]
  go_wp2_with (first | go_in | fail)
  refine wp_loop_rounds 1 ?_
  rw [rounds_succ]
  go_wp2_with (first | go_in | fail)
  go_end0
  simp only []
  go_wp2_with (first | go_in | fail)
  refine bodyPost_ret (results_none rfl _ _ _) rfl ?_
  simp only []
  go_wp2_with (first | go_in | fail)
  go_end0
  exact ⟨rfl, Below.refl _ _⟩
end Go.Proofs.YtbblckcjedjbcaaGreatDoor
