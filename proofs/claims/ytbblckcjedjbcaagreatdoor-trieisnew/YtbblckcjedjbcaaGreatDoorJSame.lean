/-
  own.go: TrieIsNew: equal lists are compared quietly; what is asked again and again.
-/
import Derived.Test.YtbblckcjedjbcaaGreatDoorJAsk
namespace Go.Proofs.YtbblckcjedjbcaaGreatDoor.J
open Go.RowKit
set_option linter.unusedVariables false
set_option linter.unusedSimpArgs false

set_option maxHeartbeats 16000000 in
set_option maxRecDepth 100000 in
theorem sameTagsQ (v u : Value) (ts : List Tg) (w : World) (hv : TsAt w v ts) (hu : TsAt w u ts) (hl : ts.length ≤ 100000) :
    Calls Tryz.prog 17 #[v, u] w fun e w' => e = .returned (.bool true) ∧ ∃ m, w' = w.drewN m := by
  obtain ⟨a, c, rfl⟩ := owns_shape hv
  obtain ⟨b, d, rfl⟩ := owns_shape hu
  have HV : Hid (TsAt w (.slice a ts.length c) ts) := hv
  have HU : Hid (TsAt w (.slice b ts.length d) ts) := hu
  obtain ⟨m, hm⟩ : ∃ m, ts.length = m := ⟨_, rfl⟩
  have HM : Hid (ts.length = m) := hm
  have HV' : Hid (w.ownsRow 0 34 2 (.slice a m c) m (tgCs ts)) := by have h := HV.out; unfold TsAt at h; rw [hm] at h; exact h
  have HU' : Hid (w.ownsRow 0 34 2 (.slice b m d) m (tgCs ts)) := by have h := HU.out; unfold TsAt at h; rw [hm] at h; exact h
  rw [hm] at hl ⊢
  clear hv hu hm HV HU
  go_enter Tryz.func17, Tryz.ntmps17
  go_wp2_with fail
  go_loopw [5] (fun vi wr => ∃ (j q : Nat), vi = .int .i64 j ∧ j ≤ m ∧ wr = w.drewN q) (fun vi _ => m - (intOf vi).toNat)
  case atStart => exact ⟨0, 0, rfl, Nat.zero_le _, rfl⟩
  case round =>
    obtain ⟨j, q, rfl, hj, rfl⟩ := hrel
    by_cases hlt : j < m
    · have hlt' : (j : Int) < (m : Int) := by omega
      obtain ⟨t, ht⟩ : ∃ t, ts[j]? = some t := ⟨ts[j]'(by rw [HM.out]; exact hlt), List.getElem?_eq_getElem _⟩
      obtain ⟨g, rfl⟩ := row_addr HV'.out (by omega)
      obtain ⟨k, rfl⟩ := row_addr HU'.out (by omega)
      obtain ⟨s, i⟩ := t
      obtain ⟨t1, t2⟩ := tg_cells ts ht
      have x0 : w.cell? ⟨g, j * 2, none⟩ = some (.int .i64 s) := cell_n HV'.out t1
      have x1 : w.cell? ⟨g, j * 2 + 1, none⟩ = some (.int .i64 i) := cell_n HV'.out t2
      have y0 : w.cell? ⟨k, j * 2, none⟩ = some (.int .i64 s) := cell_n HU'.out t1
      have y1 : w.cell? ⟨k, j * 2 + 1, none⟩ = some (.int .i64 i) := cell_n HU'.out t2
      clear ht t1 t2
      go_wp2_with fail
      go_quiet (fail)
      go_wp2_with fail
      go_roundw
      case rel => exact ⟨j + 1, _, by go_num, by omega, rfl⟩
      case measure => simp [intOf]; omega
    · have hge : ¬ ((j : Int) < (m : Int)) := by omega
      go_wp2_with fail
      go_ret
      exact ⟨rfl, q, rfl⟩
set_option maxHeartbeats 16000000 in
set_option maxRecDepth 100000 in
theorem sameWatchesQ (v u : Value) (L : List Wa) (w : World) (hv : w.ownsRow 0 40 4 v L.length (waCs L)) (hu : w.ownsRow 0 40 4 u L.length (waCs L)) (hl : L.length ≤ 100000) :
    Calls Tryz.prog 20 #[v, u] w fun e w' => e = .returned (.bool true) ∧ ∃ m, w' = w.drewN m := by
  obtain ⟨a, c, rfl⟩ := owns_shape hv
  obtain ⟨b, d, rfl⟩ := owns_shape hu
  have HV : Hid _ := hv
  have HU : Hid _ := hu
  obtain ⟨m, hm⟩ : ∃ m, L.length = m := ⟨_, rfl⟩
  have HM : Hid (L.length = m) := hm
  rw [hm] at hl HV HU ⊢
  clear hv hu hm
  go_enter Tryz.func20, Tryz.ntmps20
  go_wp2_with fail
  go_loopw [5] (fun vi wr => ∃ (j q : Nat), vi = .int .i64 j ∧ j ≤ m ∧ wr = w.drewN q) (fun vi _ => m - (intOf vi).toNat)
  case atStart => exact ⟨0, 0, rfl, Nat.zero_le _, rfl⟩
  case round =>
    obtain ⟨j, q, rfl, hj, rfl⟩ := hrel
    by_cases hlt : j < m
    · have hlt' : (j : Int) < (m : Int) := by omega
      obtain ⟨t, ht⟩ : ∃ t, L[j]? = some t := ⟨L[j]'(by rw [HM.out]; exact hlt), List.getElem?_eq_getElem _⟩
      have hV := HV.out
      have hU := HU.out
      obtain ⟨g, rfl⟩ := row_addr hV (by omega)
      obtain ⟨k, rfl⟩ := row_addr hU (by omega)
      obtain ⟨i, p, kk, f⟩ := t
      have x0 : w.cell? ⟨g, j * 4, none⟩ = some (.int .i64 i) := cell_n hV (waCs_at L j 0 _ _ ht rfl)
      have x1 : w.cell? ⟨g, j * 4 + 1, none⟩ = some (.string p) := cell_n hV (waCs_at L j 1 _ _ ht rfl)
      have x2 : w.cell? ⟨g, j * 4 + 2, none⟩ = some (.int .i64 kk) := cell_n hV (waCs_at L j 2 _ _ ht rfl)
      have x3 : w.cell? ⟨g, j * 4 + 3, none⟩ = some (.int .i64 f) := cell_n hV (waCs_at L j 3 _ _ ht rfl)
      have y0 : w.cell? ⟨k, j * 4, none⟩ = some (.int .i64 i) := cell_n hU (waCs_at L j 0 _ _ ht rfl)
      have y1 : w.cell? ⟨k, j * 4 + 1, none⟩ = some (.string p) := cell_n hU (waCs_at L j 1 _ _ ht rfl)
      have y2 : w.cell? ⟨k, j * 4 + 2, none⟩ = some (.int .i64 kk) := cell_n hU (waCs_at L j 2 _ _ ht rfl)
      have y3 : w.cell? ⟨k, j * 4 + 3, none⟩ = some (.int .i64 f) := cell_n hU (waCs_at L j 3 _ _ ht rfl)
      clear ht hV hU
      go_wp2_with fail
      go_quiet (fail)
      go_wp2_with fail
      go_roundw
      case rel => exact ⟨j + 1, _, by go_num, by omega, rfl⟩
      case measure => simp [intOf]; omega
    · have hge : ¬ ((j : Int) < (m : Int)) := by omega
      go_wp2_with fail
      go_ret
      exact ⟨rfl, q, rfl⟩
/-- Asked k times whole, and then i more. -/
def MF {α : Type} (F : List α) (k i : Nat) : List α := (List.replicate k F).flatten ++ F.take i
theorem MF_zero {α : Type} (F : List α) : MF F 0 0 = [] := by simp [MF]
theorem MF_len {α : Type} (F : List α) (k i : Nat) (hi : i ≤ F.length) : (MF F k i).length = k * F.length + i := by
  unfold MF
  rw [List.length_append, List.length_flatten, List.map_replicate, List.sum_replicate_nat, List.length_take]
  omega
theorem MF_next {α : Type} {F : List α} {i : Nat} {x : α} (k : Nat) (h : F[i]? = some x) : MF F k (i + 1) = MF F k i ++ [x] := by
  unfold MF
  rw [take_atX h, List.append_assoc]
theorem MF_end {α : Type} (F : List α) (k : Nat) : MF F k F.length = MF F (k + 1) 0 := by
  unfold MF
  rw [List.take_length, List.take_zero, List.append_nil, List.replicate_succ', List.flatten_append]
  simp
theorem MF_two {α : Type} (F : List α) : MF F 2 0 = F ++ F := by simp [MF, List.replicate]
theorem MF_at {α : Type} {F : List α} {j : Nat} (h : j < 2 * F.length) : (MF F 2 0)[j]? = F[j % F.length]? := by
  rw [MF_two]
  by_cases h1 : j < F.length
  · rw [List.getElem?_append_left h1, Nat.mod_eq_of_lt h1]
  · rw [List.getElem?_append_right (by omega), Nat.mod_eq_sub_mod (by omega), Nat.mod_eq_of_lt (by omega)]
abbrev TL (Ms : List (List Tg)) : List (List (El 2)) := Ms.map (fun l => l.map elT)
abbrev WL (Gs : List (List Wa)) : List (List (El 4)) := Gs.map (fun l => l.map elW)
/-- Between two asks. -/
def Qn (V w : World) (B : Nat) (tv wv : Value) (Ms : List (List Tg)) (Gs : List (List Wa)) : Prop :=
  ∃ hv hn us ms cs ds, Ak V w B hv hn us ms (TL Ms) (WL Gs) tv wv cs ds (TL Ms) (WL Gs)
theorem Qn.start (V : World) : Qn V (V.alloc (.cells #[.slice none 0 0, .slice none 0 0, .slice none 0 0, .slice none 0 0] 60)) V.heap.size (.slice none 0 0) (.slice none 0 0) [] [] := by
  have hb : Below V.heap.size V (V.alloc (.cells #[.slice none 0 0, .slice none 0 0, .slice none 0 0, .slice none 0 0] 60)) := (Below.refl _ _).alloc (Nat.le_refl _) _
  have hB : ∀ j, BkB V.heap.size (.slice none 0 0) (.slice none 0 0) [] [] j → j = V.heap.size := by
    rintro j (hj | hj | hj | ⟨_, _, hj, _⟩ | ⟨_, _, hj, _⟩)
    · exact hj
    · cases hj
    · cases hj
    · simp at hj
    · simp at hj
  have hC : ∀ j, ¬ HfB (.slice none 0 0) [] j := by
    rintro j (hj | ⟨_, _, hj, _⟩)
    · cases hj
    · simp at hj
  exact ⟨.slice none 0 0, .slice none 0 0, [], [], [], [], ⟨⟨heap_alloc_new _ _, ⟨rfl, .inl ⟨rfl, rfl⟩⟩, ⟨rfl, .inl ⟨rfl, rfl⟩⟩, ⟨rfl, fun k u l hu => by simp at hu, fun i j u v b hu => by simp at hu⟩, ⟨rfl, fun k u l hu => by simp at hu, fun i j u v b hu => by simp at hu⟩⟩, Hf.none _ _ _ _, Hf.none _ _ _ _, fun j _ => hC j, fun j _ => hC j, fun j hj => by rw [hB j hj]; exact Nat.le_refl _, fun j hj => absurd hj (hC j), fun j hj => absurd hj (hC j), hb⟩⟩
/-- Changes in memory. -/
structure Cg where
  k : Int
  p : ByteArray
  d : ByteArray
  v : Int
abbrev Cg.cs (x : Cg) : List Value := [.int .i64 x.k, .string x.p, .string x.d, .int .i64 x.v]
def CsAt (w : World) (a : Option Addr) (L : List Cg) : Prop := L = [] ∨ ∃ b o, a = some ⟨b, o, none⟩ ∧ b < w.heap.size ∧ ∀ (j t : Nat) (x : Cg) (v : Value), L[j]? = some x → x.cs[t]? = some v → w.cell? ⟨b, o + (j * 4 + t), none⟩ = some v
theorem CsAt.below {w w' : World} {a : Option Addr} {L : List Cg} (h : CsAt w a L) (hb : Below w.heap.size w w') : CsAt w' a L := by
  rcases h with h | ⟨b, o, e, hl, hc⟩
  · exact .inl h
  · exact .inr ⟨b, o, e, Nat.lt_of_lt_of_le hl hb.size, fun j t x v hx hv => by rw [hb.cell (p := ⟨b, o + (j * 4 + t), none⟩) hl]; exact hc j t x v hx hv⟩
theorem CsAt.at {w : World} {a : Option Addr} {L : List Cg} (h : CsAt w a L) {j : Nat} {x : Cg} (hx : L[j]? = some x) : ∃ b o, a = some ⟨b, o, none⟩ ∧ w.cell? ⟨b, o + j * 4, none⟩ = some (.int .i64 x.k) ∧ w.cell? ⟨b, o + j * 4 + 1, none⟩ = some (.string x.p) ∧ w.cell? ⟨b, o + j * 4 + 2, none⟩ = some (.string x.d) ∧ w.cell? ⟨b, o + j * 4 + 3, none⟩ = some (.int .i64 x.v) := by
  rcases h with rfl | ⟨b, o, e, hl, hc⟩
  · simp at hx
  · exact ⟨b, o, e, hc j 0 x _ hx rfl, hc j 1 x _ hx rfl, hc j 2 x _ hx rfl, hc j 3 x _ hx rfl⟩
theorem CsAt.take {w : World} {a : Option Addr} {L : List Cg} (h : CsAt w a L) (n : Nat) : CsAt w a (L.take n) := by
  rcases h with rfl | ⟨b, o, e, hl, hc⟩
  · exact .inl (by simp)
  · refine .inr ⟨b, o, e, hl, fun j t x v hx hv => hc j t x v ?_ hv⟩
    rw [List.getElem?_take] at hx
    split at hx
    · exact hx
    · cases hx
end Go.Proofs.YtbblckcjedjbcaaGreatDoor.J
