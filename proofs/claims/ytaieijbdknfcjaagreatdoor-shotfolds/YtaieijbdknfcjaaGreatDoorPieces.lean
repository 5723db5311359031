/-
  heraldref1.pieces by a contract.
-/
import Derived.Test.YtaieijbdknfcjaaGreatDoorParse
import Derived.Maps.AppendAt
namespace Go.Proofs.YtaieijbdknfcjaaGreatDoor
open Go.RowKit

/-- No slash from f up to k. -/
def Clear (s : ByteArray) (f k : Nat) : Prop := ∀ b ∈ (s.data.toList.drop f).take (k - f), b ≠ 47

theorem Clear.self (s : ByteArray) (f : Nat) : Clear s f f := by
  intro b hb
  rw [Nat.sub_self] at hb
  simp at hb
theorem Clear.step {s : ByteArray} {f k : Nat} (h : Clear s f k) (hf : f ≤ k) (hk : k < s.size) (hb : s[k] ≠ 47) : Clear s f (k + 1) := by
  intro b hm
  have e : k + 1 - f = (k - f) + 1 := by omega
  have hlen : k - f < (s.data.toList.drop f).length := by
    rw [List.length_drop]
    have : s.data.toList.length = s.size := by simp
    omega
  rw [e, List.take_succ_eq_append_getElem hlen, List.mem_append] at hm
  rcases hm with hm | hm
  · exact h b hm
  · rw [List.mem_singleton, List.getElem_drop] at hm
    have e2 : f + (k - f) = k := by omega
    simp only [e2] at hm
    rw [hm]
    exact hb

theorem data_extract (s : ByteArray) (f k : Nat) : (s.extract f k).data.toList = (s.data.toList.drop f).take (k - f) := by
  rw [Lib.extract_data]

theorem cut_at {s : ByteArray} {f k : Nat} (h : Clear s f k) (hf : f ≤ k) (hk : k < s.size) (hb : s[k] = 47) :
    cutL (s.data.toList.drop f) = (s.extract f k).data.toList :: cutL (s.data.toList.drop (k + 1)) := by
  have hl : k < s.data.toList.length := by simpa using hk
  have e : s.data.toList.drop f = (s.data.toList.drop f).take (k - f) ++ 47 :: s.data.toList.drop (k + 1) := by
    have e1 := (List.take_append_drop (k - f) (s.data.toList.drop f)).symm
    rw [List.drop_drop, show f + (k - f) = k by omega, List.drop_eq_getElem_cons hl] at e1
    have e2 : s.data.toList[k] = 47 := hb
    rw [e2] at e1
    exact e1
  rw [data_extract]
  conv => lhs; rw [e]
  exact cutL_pre _ _ h
theorem cut_end {s : ByteArray} {f : Nat} (h : Clear s f s.size) : cutL (s.data.toList.drop f) = [(s.extract f s.size).data.toList] := by
  have e : (s.data.toList.drop f).take (s.size - f) = s.data.toList.drop f := List.take_of_length_le (by simp)
  rw [data_extract, e]
  unfold Clear at h
  rw [e] at h
  exact cutL_all _ h

/-- What the loop has gathered at k. -/
def Gathered (s : ByteArray) (k f : Nat) (done : List ByteArray) : Prop :=
  (k ≤ s.size ∧ 1 ≤ f ∧ f ≤ k ∧ Clear s f k ∧ done.map (·.data.toList) ++ cutL (s.data.toList.drop f) = cutL (s.data.toList.drop 1)) ∨
  (k = s.size + 1 ∧ done.map (·.data.toList) = cutL (s.data.toList.drop 1))

theorem gathered_len {s : ByteArray} {k f : Nat} {done : List ByteArray} (h : Gathered s k f done) : done.length ≤ s.size + 1 := by
  have hl : (cutL (s.data.toList.drop 1)).length ≤ s.size + 1 := by
    rw [cutL_length]
    have h1 := List.count_le_length (a := 47) (l := s.data.toList.drop 1)
    have h2 : s.data.toList.length = s.size := by simp
    rw [List.length_drop] at h1
    omega
  rcases h with ⟨_, _, _, _, h⟩ | ⟨_, h⟩
  · have := congrArg List.length h
    simp only [List.length_append, List.length_map] at this
    omega
  · have := congrArg List.length h
    simp only [List.length_map] at this
    omega
theorem gathered_cut {s : ByteArray} {k f : Nat} {done : List ByteArray} (h : Gathered s k f done) (hk : k < s.size) (hb : s[k] = 47) : Gathered s (k + 1) (k + 1) (done ++ [s.extract f k]) := by
  rcases h with ⟨h1, h2, h3, h4, h5⟩ | ⟨h1, _⟩
  · refine .inl ⟨by omega, by omega, Nat.le_refl _, Clear.self _ _, ?_⟩
    rw [← h5, cut_at h4 h3 hk hb]
    simp
  · omega
theorem gathered_on {s : ByteArray} {k f : Nat} {done : List ByteArray} (h : Gathered s k f done) (hk : k < s.size) (hb : s[k] ≠ 47) : Gathered s (k + 1) f done := by
  rcases h with ⟨h1, h2, h3, h4, h5⟩ | ⟨h1, _⟩
  · exact .inl ⟨by omega, h2, by omega, h4.step h3 hk hb, h5⟩
  · omega
theorem gathered_end {s : ByteArray} {f : Nat} {done : List ByteArray} (h : Gathered s s.size f done) : Gathered s (s.size + 1) (s.size + 1) (done ++ [s.extract f s.size]) := by
  rcases h with ⟨h1, h2, h3, h4, h5⟩ | ⟨h1, _⟩
  · refine .inr ⟨rfl, ?_⟩
    rw [← h5, cut_end h4]
    simp
  · omega
theorem gathered_all {s : ByteArray} {f : Nat} {done : List ByteArray} (h : Gathered s (s.size + 1) f done) : done = cutB (mk (s.data.toList.drop 1)) := by
  rcases h with ⟨h1, _⟩ | ⟨_, h⟩
  · omega
  · rw [cutB_mk, ← h, List.map_map]
    conv => lhs; rw [← List.map_id done]
    apply List.map_congr_left
    intro x _
    exact (mk_data x).symm

theorem Tryz.info9 : (Tryz.prog.info? 9).map (fun i => (i.zero, i.size, i.bytes)) = some (some (.string ByteArray.empty), 1, 16) := by kernel_rfl

theorem lst_of_owns {w : World} {base : Nat} {v : Value} {xs : List ByteArray} (h : w.ownsRow base 9 1 v xs.length (xs.map Value.string)) :
    ∃ a c, v = .slice a xs.length c ∧ Lst w a xs ∧ (xs.length ≤ c ∧ c ≤ maxLen) := by
  rcases h.2 with ⟨rfl, h0⟩ | ⟨g, cap, cur, rfl, hg, hb, hn, hc, hs, ht⟩
  · have : xs = [] := List.eq_nil_of_length_eq_zero h0
    subst this
    exact ⟨none, 0, rfl, .inl rfl, Nat.le_refl _, Nat.zero_le _⟩
  · refine ⟨some ⟨g, 0, none⟩, cap, rfl, .inr ⟨g, 0, rfl, lt_of_block' hb, fun j x hx => ?_⟩, hn, hc⟩
    have hj : j < xs.length := by
      rw [List.getElem?_eq_some_iff] at hx
      exact hx.1
    rw [Nat.zero_add, h.cellAt j (by omega)]
    simp [hx]

theorem rel_app {w wr w1 : World} {u v' : Value} {o : Obj} {done : List ByteArray} {x : ByteArray} (hown : wr.ownsRow w.heap.size 9 1 u done.length (done.map Value.string)) (hbel : Below w.heap.size w wr)
    (hown' : w1.ownsRow w.heap.size 9 1 v' (done.length + 1) (done.map Value.string ++ [.string x])) (hgrow : (wr.alloc o).grownBy w1 u.ownBlock) :
    w1.ownsRow w.heap.size 9 1 v' (done ++ [x]).length ((done ++ [x]).map Value.string) ∧ Below w.heap.size w w1 :=
  ⟨by simpa using hown', (hbel.alloc hbel.size o).grown hgrow (by have := hbel.size; simp; omega) (fun j hj => (hown.lt j hj).1)⟩

set_option maxHeartbeats 1600000 in
set_option maxRecDepth 100000 in
theorem pieces_any (s : ByteArray) (h1 : 1 ≤ s.size) (h2 : s.size ≤ 65536) (w : World) :
    Calls Tryz.prog 68 #[.string s] w fun e w' =>
      ∃ a c, e = .returned (.slice a (cutB (mk (s.data.toList.drop 1))).length c) ∧ Lst w' a (cutB (mk (s.data.toList.drop 1))) ∧ ((cutB (mk (s.data.toList.drop 1))).length ≤ c ∧ c ≤ maxLen) ∧ Below w.heap.size w w' := by
  obtain ⟨i0, hi, hz0, hz1, hz2⟩ := info_parts Tryz.info9
  go_enter Tryz.func68, Tryz.ntmps68
  go_wp2
  go_loopw [3, 4, 5] (fun v fr i wr => ∃ (k f : Nat) (done : List ByteArray), i = .int .i64 k ∧ fr = .int .i64 f ∧ 1 ≤ k ∧ k ≤ s.size + 1 ∧ wr.ownsRow w.heap.size 9 1 v done.length (done.map Value.string) ∧ Below w.heap.size w wr ∧ Hid (Gathered s k f done))
    (fun _ _ i _ => s.size + 1 - (intOf i).toNat)
  case atStart =>
    exact ⟨1, 1, [], rfl, rfl, by omega, by omega, World.ownsRow_nil _ _ _ _, Below.refl _ _, .inl ⟨h1, by omega, by omega, Clear.self _ _, rfl⟩⟩
  case round =>
    obtain ⟨k, f, done, rfl, rfl, hk1, hk2, hown, hbel, HG⟩ := hrel
    have hdl := gathered_len HG.out
    by_cases hlt : k < s.size
    · have hf : f ≤ k := by rcases HG.out with ⟨_, _, h, _⟩ | ⟨h, _⟩ <;> omega
      obtain ⟨n, hn⟩ : ∃ n : Nat, s[k].toNat = n := ⟨_, rfl⟩
      have hne : ((k : Int) == (s.size : Int)) = false := by simp; omega
      by_cases hb : n = 47
      · have HX : Hid _ := gathered_cut HG.out hlt (UInt8.toNat_inj.mp (hn.trans hb))
        have hb1 : ((n : Int) == 47) = true := by simp; omega
        go_wp2_with (first
          | (at_builtin; refine wpList_append_own _ rfl _ _ 80 rfl w.heap.size 9 i0 (.string ByteArray.empty) 1 16 Tryz.underlying80 hi hz0 hz1 hz2 rfl (by decide) _ _ _ rfl (hown.alloc _) ⟨wr.heap.size, 0, none⟩ 1 1 [.string (s.extract f k)] rfl rfl (cell_one_new _ _ _) (fun x hx => by simp at hx; subst hx; rfl) (by unfold maxLen; omega) (by omega) (by have := hbel.size; simp; omega) ?_; intro v' w1 hown' hgrow _)
          | go_in)
        have R := rel_app hown hbel hown' hgrow
        go_roundw
        case rel => exact ⟨k + 1, k + 1, done ++ [s.extract f k], by go_num, by go_num, by omega, by omega, R.1, R.2, HX.out⟩
        case measure => simp [intOf]; omega
      · have HX : Hid _ := gathered_on HG.out hlt (fun e => hb (by rw [← hn, e]; rfl))
        have hb1 : ((n : Int) == 47) = false := by simp; omega
        go_wp2
        go_roundw
        case rel => exact ⟨k + 1, f, done, by go_num, rfl, by omega, by omega, hown, hbel, HX.out⟩
        case measure => simp [intOf]; omega
    · by_cases heq : k = s.size
      · subst heq
        have hf : f ≤ s.size := by rcases HG.out with ⟨_, _, h, _⟩ | ⟨h, _⟩ <;> omega
        have HX : Hid _ := gathered_end HG.out
        go_wp2_with (first
          | (at_builtin; refine wpList_append_own _ rfl _ _ 80 rfl w.heap.size 9 i0 (.string ByteArray.empty) 1 16 Tryz.underlying80 hi hz0 hz1 hz2 rfl (by decide) _ _ _ rfl (hown.alloc _) ⟨wr.heap.size, 0, none⟩ 1 1 [.string (s.extract f s.size)] rfl rfl (cell_one_new _ _ _) (fun x hx => by simp at hx; subst hx; rfl) (by unfold maxLen; omega) (by omega) (by have := hbel.size; simp; omega) ?_; intro v' w1 hown' hgrow _)
          | go_in)
        have R := rel_app hown hbel hown' hgrow
        go_roundw
        case rel => exact ⟨s.size + 1, s.size + 1, done ++ [s.extract f s.size], by go_num, by go_num, by omega, by omega, R.1, R.2, HX.out⟩
        case measure => simp [intOf]
      · obtain rfl : k = s.size + 1 := by omega
        have hx := gathered_all HG.out
        rw [hx] at hown
        obtain ⟨a, c, hv, hL, hcap⟩ := lst_of_owns hown
        have HCP : Hid _ := hcap
        have HL : Hid _ := hL
        have HV : Hid _ := hv
        clear hL hv hown hx HG hdl hcap
        go_wp2
        go_ret
        exact ⟨a, c, by rw [← HV.out]; rfl, HL.out, HCP.out, hbel⟩
end Go.Proofs.YtaieijbdknfcjaaGreatDoor
