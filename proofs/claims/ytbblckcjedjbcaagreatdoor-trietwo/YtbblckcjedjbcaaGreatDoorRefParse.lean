import Derived.Test.YtbblckcjedjbcaaGreatDoorParse
import Derived.Maps.AppendAt
import Derived.Test.YtbblckcjedjbcaaGreatDoorNames
namespace Go.Proofs.YtbblckcjedjbcaaGreatDoor
open Go.RowKit

/-- No slash from f up to k. -/
def Clear (s : ByteArray) (f k : Nat) : Prop := ∀ b ∈ (s.data.toList.drop f).take (k - f), b ≠ 47

theorem Clear.self (s : ByteArray) (f : Nat) : Clear s f f := by
  intro b hb
  rw [Nat.sub_self] at hb
  simp at hb
theorem Clear.step {s : ByteArray} {f k : Nat} (h : Clear s f k) (hf : f ≤ k) (hk : k < s.size) (hb : s[k] ≠ 47) : Clear s f (k + 1) := by
  intro b hm
  have e : k + 1 - f = (k - f) + 1 := by omega
  have hlen : k - f < (s.data.toList.drop f).length := by
    rw [List.length_drop]
    have : s.data.toList.length = s.size := by simp
    omega
  rw [e, List.take_succ_eq_append_getElem hlen, List.mem_append] at hm
  rcases hm with hm | hm
  · exact h b hm
  · rw [List.mem_singleton, List.getElem_drop] at hm
    have e2 : f + (k - f) = k := by omega
    simp only [e2] at hm
    rw [hm]
    exact hb

theorem data_extract (s : ByteArray) (f k : Nat) : (s.extract f k).data.toList = (s.data.toList.drop f).take (k - f) := by
  rw [Lib.extract_data]

theorem cut_at {s : ByteArray} {f k : Nat} (h : Clear s f k) (hf : f ≤ k) (hk : k < s.size) (hb : s[k] = 47) :
    cutL (s.data.toList.drop f) = (s.extract f k).data.toList :: cutL (s.data.toList.drop (k + 1)) := by
  have hl : k < s.data.toList.length := by simpa using hk
  have e : s.data.toList.drop f = (s.data.toList.drop f).take (k - f) ++ 47 :: s.data.toList.drop (k + 1) := by
    have e1 := (List.take_append_drop (k - f) (s.data.toList.drop f)).symm
    rw [List.drop_drop, show f + (k - f) = k by omega, List.drop_eq_getElem_cons hl] at e1
    have e2 : s.data.toList[k] = 47 := hb
    rw [e2] at e1
    exact e1
  rw [data_extract]
  conv => lhs; rw [e]
  exact cutL_pre _ _ h
theorem cut_end {s : ByteArray} {f : Nat} (h : Clear s f s.size) : cutL (s.data.toList.drop f) = [(s.extract f s.size).data.toList] := by
  have e : (s.data.toList.drop f).take (s.size - f) = s.data.toList.drop f := List.take_of_length_le (by simp)
  rw [data_extract, e]
  unfold Clear at h
  rw [e] at h
  exact cutL_all _ h

/-- What the loop has gathered at k. -/
def Gathered (s : ByteArray) (k f : Nat) (done : List ByteArray) : Prop :=
  (k ≤ s.size ∧ 1 ≤ f ∧ f ≤ k ∧ Clear s f k ∧ done.map (·.data.toList) ++ cutL (s.data.toList.drop f) = cutL (s.data.toList.drop 1)) ∨
  (k = s.size + 1 ∧ done.map (·.data.toList) = cutL (s.data.toList.drop 1))

theorem gathered_len {s : ByteArray} {k f : Nat} {done : List ByteArray} (h : Gathered s k f done) : done.length ≤ s.size + 1 := by
  have hl : (cutL (s.data.toList.drop 1)).length ≤ s.size + 1 := by
    rw [cutL_length]
    have h1 := List.count_le_length (a := 47) (l := s.data.toList.drop 1)
    have h2 : s.data.toList.length = s.size := by simp
    rw [List.length_drop] at h1
    omega
  rcases h with ⟨_, _, _, _, h⟩ | ⟨_, h⟩
  · have := congrArg List.length h
    simp only [List.length_append, List.length_map] at this
    omega
  · have := congrArg List.length h
    simp only [List.length_map] at this
    omega
theorem gathered_cut {s : ByteArray} {k f : Nat} {done : List ByteArray} (h : Gathered s k f done) (hk : k < s.size) (hb : s[k] = 47) : Gathered s (k + 1) (k + 1) (done ++ [s.extract f k]) := by
  rcases h with ⟨h1, h2, h3, h4, h5⟩ | ⟨h1, _⟩
  · refine .inl ⟨by omega, by omega, Nat.le_refl _, Clear.self _ _, ?_⟩
    rw [← h5, cut_at h4 h3 hk hb]
    simp
  · omega
theorem gathered_on {s : ByteArray} {k f : Nat} {done : List ByteArray} (h : Gathered s k f done) (hk : k < s.size) (hb : s[k] ≠ 47) : Gathered s (k + 1) f done := by
  rcases h with ⟨h1, h2, h3, h4, h5⟩ | ⟨h1, _⟩
  · exact .inl ⟨by omega, h2, by omega, h4.step h3 hk hb, h5⟩
  · omega
theorem gathered_end {s : ByteArray} {f : Nat} {done : List ByteArray} (h : Gathered s s.size f done) : Gathered s (s.size + 1) (s.size + 1) (done ++ [s.extract f s.size]) := by
  rcases h with ⟨h1, h2, h3, h4, h5⟩ | ⟨h1, _⟩
  · refine .inr ⟨rfl, ?_⟩
    rw [← h5, cut_end h4]
    simp
  · omega
theorem gathered_all {s : ByteArray} {f : Nat} {done : List ByteArray} (h : Gathered s (s.size + 1) f done) : done = cutB (mk (s.data.toList.drop 1)) := by
  rcases h with ⟨h1, _⟩ | ⟨_, h⟩
  · omega
  · rw [cutB_mk, ← h, List.map_map]
    conv => lhs; rw [← List.map_id done]
    apply List.map_congr_left
    intro x _
    exact (mk_data x).symm

theorem Tryz.info9 : (Tryz.prog.info? 9).map (fun i => (i.zero, i.size, i.bytes)) = some (some (.string ByteArray.empty), 1, 16) := by kernel_rfl

theorem lst_of_owns {w : World} {base : Nat} {v : Value} {xs : List ByteArray} (h : w.ownsRow base 9 1 v xs.length (xs.map Value.string)) :
    ∃ a c, v = .slice a xs.length c ∧ Lst w a xs ∧ (xs.length ≤ c ∧ c ≤ maxLen) := by
  rcases h.2 with ⟨rfl, h0⟩ | ⟨g, cap, cur, rfl, hg, hb, hn, hc, hs, ht⟩
  · have : xs = [] := List.eq_nil_of_length_eq_zero h0
    subst this
    exact ⟨none, 0, rfl, .inl rfl, Nat.le_refl _, Nat.zero_le _⟩
  · refine ⟨some ⟨g, 0, none⟩, cap, rfl, .inr ⟨g, 0, rfl, lt_of_block' hb, fun j x hx => ?_⟩, hn, hc⟩
    have hj : j < xs.length := by
      rw [List.getElem?_eq_some_iff] at hx
      exact hx.1
    rw [Nat.zero_add, h.cellAt j (by omega)]
    simp [hx]

theorem rel_app {w wr w1 : World} {u v' : Value} {o : Obj} {done : List ByteArray} {x : ByteArray} (hown : wr.ownsRow w.heap.size 9 1 u done.length (done.map Value.string)) (hbel : Below w.heap.size w wr)
    (hown' : w1.ownsRow w.heap.size 9 1 v' (done.length + 1) (done.map Value.string ++ [.string x])) (hgrow : (wr.alloc o).grownBy w1 u.ownBlock) :
    w1.ownsRow w.heap.size 9 1 v' (done ++ [x]).length ((done ++ [x]).map Value.string) ∧ Below w.heap.size w w1 :=
  ⟨by simpa using hown', (hbel.alloc hbel.size o).grown hgrow (by have := hbel.size; simp; omega) (fun j hj => (hown.lt j hj).1)⟩

set_option maxHeartbeats 1600000 in
set_option maxRecDepth 100000 in
theorem pieces_any (s : ByteArray) (h1 : 1 ≤ s.size) (h2 : s.size ≤ 65536) (w : World) :
    Calls Tryz.prog 104 #[.string s] w fun e w' =>
      ∃ a c, e = .returned (.slice a (cutB (mk (s.data.toList.drop 1))).length c) ∧ Lst w' a (cutB (mk (s.data.toList.drop 1))) ∧ ((cutB (mk (s.data.toList.drop 1))).length ≤ c ∧ c ≤ maxLen) ∧ Below w.heap.size w w' := by
  obtain ⟨i0, hi, hz0, hz1, hz2⟩ := info_parts Tryz.info9
  go_enter Tryz.func104, Tryz.ntmps104
  go_wp2
  go_loopw [3, 4, 5] (fun v fr i wr => ∃ (k f : Nat) (done : List ByteArray), i = .int .i64 k ∧ fr = .int .i64 f ∧ 1 ≤ k ∧ k ≤ s.size + 1 ∧ wr.ownsRow w.heap.size 9 1 v done.length (done.map Value.string) ∧ Below w.heap.size w wr ∧ Hid (Gathered s k f done))
    (fun _ _ i _ => s.size + 1 - (intOf i).toNat)
  case atStart =>
    exact ⟨1, 1, [], rfl, rfl, by omega, by omega, World.ownsRow_nil _ _ _ _, Below.refl _ _, .inl ⟨h1, by omega, by omega, Clear.self _ _, rfl⟩⟩
  case round =>
    obtain ⟨k, f, done, rfl, rfl, hk1, hk2, hown, hbel, HG⟩ := hrel
    have hdl := gathered_len HG.out
    by_cases hlt : k < s.size
    · have hf : f ≤ k := by rcases HG.out with ⟨_, _, h, _⟩ | ⟨h, _⟩ <;> omega
      obtain ⟨n, hn⟩ : ∃ n : Nat, s[k].toNat = n := ⟨_, rfl⟩
      have hne : ((k : Int) == (s.size : Int)) = false := by simp; omega
      by_cases hb : n = 47
      · have HX : Hid _ := gathered_cut HG.out hlt (UInt8.toNat_inj.mp (hn.trans hb))
        have hb1 : ((n : Int) == 47) = true := by simp; omega
        go_wp2_with (first
          | (at_builtin; refine wpList_append_own _ rfl _ _ 87 rfl w.heap.size 9 i0 (.string ByteArray.empty) 1 16 Tryz.underlying87 hi hz0 hz1 hz2 rfl (by decide) _ _ _ rfl (hown.alloc _) ⟨wr.heap.size, 0, none⟩ 1 1 [.string (s.extract f k)] rfl rfl (cell_one_new _ _ _) (fun x hx => by simp at hx; subst hx; rfl) (by unfold maxLen; omega) (by omega) (by have := hbel.size; simp; omega) ?_; intro v' w1 hown' hgrow _)
          | go_in)
        have R := rel_app hown hbel hown' hgrow
        go_roundw
        case rel => exact ⟨k + 1, k + 1, done ++ [s.extract f k], by go_num, by go_num, by omega, by omega, R.1, R.2, HX.out⟩
        case measure => simp [intOf]; omega
      · have HX : Hid _ := gathered_on HG.out hlt (fun e => hb (by rw [← hn, e]; rfl))
        have hb1 : ((n : Int) == 47) = false := by simp; omega
        go_wp2
        go_roundw
        case rel => exact ⟨k + 1, f, done, by go_num, rfl, by omega, by omega, hown, hbel, HX.out⟩
        case measure => simp [intOf]; omega
    · by_cases heq : k = s.size
      · subst heq
        have hf : f ≤ s.size := by rcases HG.out with ⟨_, _, h, _⟩ | ⟨h, _⟩ <;> omega
        have HX : Hid _ := gathered_end HG.out
        go_wp2_with (first
          | (at_builtin; refine wpList_append_own _ rfl _ _ 87 rfl w.heap.size 9 i0 (.string ByteArray.empty) 1 16 Tryz.underlying87 hi hz0 hz1 hz2 rfl (by decide) _ _ _ rfl (hown.alloc _) ⟨wr.heap.size, 0, none⟩ 1 1 [.string (s.extract f s.size)] rfl rfl (cell_one_new _ _ _) (fun x hx => by simp at hx; subst hx; rfl) (by unfold maxLen; omega) (by omega) (by have := hbel.size; simp; omega) ?_; intro v' w1 hown' hgrow _)
          | go_in)
        have R := rel_app hown hbel hown' hgrow
        go_roundw
        case rel => exact ⟨s.size + 1, s.size + 1, done ++ [s.extract f s.size], by go_num, by go_num, by omega, by omega, R.1, R.2, HX.out⟩
        case measure => simp [intOf]
      · obtain rfl : k = s.size + 1 := by omega
        have hx := gathered_all HG.out
        rw [hx] at hown
        obtain ⟨a, c, hv, hL, hcap⟩ := lst_of_owns hown
        have HCP : Hid _ := hcap
        have HL : Hid _ := hL
        have HV : Hid _ := hv
        clear hL hv hown hx HG hdl hcap
        go_wp2
        go_ret
        exact ⟨a, c, by rw [← HV.out]; rfl, HL.out, HCP.out, hbel⟩
end Go.Proofs.YtbblckcjedjbcaaGreatDoor
namespace Go.Proofs.YtbblckcjedjbcaaGreatDoor
open Go.RowKit

theorem nameB_of {c : UInt8} {n : Nat} (h : c.toNat = n) : nameB c = (decide (97 ≤ n ∧ n ≤ 122) || decide (65 ≤ n ∧ n ≤ 90) || decide (48 ≤ n ∧ n ≤ 57) || decide (n = 95) || decide (n = 45) || decide (n = 46)) := by
  subst h; rfl

set_option maxHeartbeats 1600000 in
theorem nameOf_long (s : ByteArray) (w : World) (h1 : (1 : Int) ≤ (s.size : Int)) (h2 : (s.size : Int) ≤ 16) (h3 : (s.toList == [46]) = false) (h4 : (s.toList == [46, 46]) = false) :
    Calls Tryz.prog 105 #[.string s] w fun e w' => e = .returned (.bool (isNm s)) ∧ w' = w := by
  have h0 : ¬ (s.size : Int) < 1 := by omega
  have h1' : s.toList.isEmpty = false := by
    rw [ByteArray.toList_eq]
    cases hl : s.data.toList with
    | nil => have : s.size = 0 := by simpa using congrArg List.length hl
             omega
    | cons b l => rfl
  have h2' : decide ((16 : Int) < (s.size : Int)) = false := by simpa using h2
  have h3' : ¬ s.toList = [46] := by simpa using h3
  have HH : Hid (((s.toList.isEmpty = false ∧ (s.size : Int) ≤ 16) ∧ (s.toList == [46]) = false) ∧ (s.toList == [46, 46]) = false) := ⟨⟨⟨h1', h2⟩, h3⟩, h4⟩
  have h16 : s.size ≤ 16 := by omega
  have h00 : decide ((s.size : Int) < 1) = false := by simpa using h1
  clear h1'
  go_enter Tryz.func105, Tryz.ntmps105
  go_wp2
  clear h1 h2 h3 h4 h0 h2' h3' h00
  go_loop [3] (fun i => ∃ k : Nat, i = .int .i64 k ∧ k ≤ s.size ∧ (s.data.toList.take k).all nameB = true) (fun i => s.size - (intOf i).toNat)
  case atStart => exact ⟨0, rfl, by omega, rfl⟩
  case round =>
    obtain ⟨k, rfl, hk, ha⟩ := hrel
    have HA : Hid _ := ha
    clear ha
    by_cases hlt : k < s.size
    · obtain ⟨n, hn⟩ : ∃ n : Nat, s[k].toNat = n := ⟨_, rfl⟩
      have HB : Hid _ := nameB_of hn
      have hn2 : n < 256 := by have := s[k].toNat_lt; omega
      rcases (show n < 45 ∨ n = 45 ∨ n = 46 ∨ n = 47 ∨ (48 ≤ n ∧ n ≤ 57) ∨ (58 ≤ n ∧ n ≤ 64) ∨ (65 ≤ n ∧ n ≤ 90) ∨ (91 ≤ n ∧ n ≤ 94) ∨ n = 95 ∨ n = 96 ∨ (97 ≤ n ∧ n ≤ 122) ∨ 123 ≤ n by omega)
        with hc | hc | hc | hc | hc | hc | hc | hc | hc | hc | hc | hc
      · have e1 : ((n : Int) != 95) = true := by simp; omega
        have e2 : ((n : Int) != 45) = true := by simp; omega
        have e3 : ((n : Int) != 46) = true := by simp; omega
        have hb : nameB s[k] = false := by rw [HB.out]; simp; omega
        have HBB : Hid _ := hb
        clear hb
        go_wp2
        go_ret
        exact ⟨by rw [nm_bad k hlt HBB.out]; rfl, rfl⟩
      · subst hc
        have hb : nameB s[k] = true := by rw [HB.out]; rfl
        have HBB : Hid _ := hb
        clear hb
        go_wp2
        go_round
        case rel => exact ⟨k + 1, by go_num, by omega, nm_step k hlt HBB.out HA.out⟩
        case measure => simp [intOf]; omega
      · subst hc
        have hb : nameB s[k] = true := by rw [HB.out]; rfl
        have HBB : Hid _ := hb
        clear hb
        go_wp2
        go_round
        case rel => exact ⟨k + 1, by go_num, by omega, nm_step k hlt HBB.out HA.out⟩
        case measure => simp [intOf]; omega
      · have e1 : ((n : Int) != 95) = true := by simp; omega
        have e2 : ((n : Int) != 45) = true := by simp; omega
        have e3 : ((n : Int) != 46) = true := by simp; omega
        have hb : nameB s[k] = false := by rw [HB.out]; simp; omega
        have HBB : Hid _ := hb
        clear hb
        go_wp2
        go_ret
        exact ⟨by rw [nm_bad k hlt HBB.out]; rfl, rfl⟩
      · have hb : nameB s[k] = true := by rw [HB.out]; simp; omega
        have HBB : Hid _ := hb
        clear hb
        go_wp2
        go_round
        case rel => exact ⟨k + 1, by go_num, by omega, nm_step k hlt HBB.out HA.out⟩
        case measure => simp [intOf]; omega
      · have e1 : ((n : Int) != 95) = true := by simp; omega
        have e2 : ((n : Int) != 45) = true := by simp; omega
        have e3 : ((n : Int) != 46) = true := by simp; omega
        have hb : nameB s[k] = false := by rw [HB.out]; simp; omega
        have HBB : Hid _ := hb
        clear hb
        go_wp2
        go_ret
        exact ⟨by rw [nm_bad k hlt HBB.out]; rfl, rfl⟩
      · have hb : nameB s[k] = true := by rw [HB.out]; simp; omega
        have HBB : Hid _ := hb
        clear hb
        go_wp2
        go_round
        case rel => exact ⟨k + 1, by go_num, by omega, nm_step k hlt HBB.out HA.out⟩
        case measure => simp [intOf]; omega
      · have e1 : ((n : Int) != 95) = true := by simp; omega
        have d1 : decide ((n : Int) ≤ 90) = false := by simp; omega
        have e2 : ((n : Int) != 45) = true := by simp; omega
        have e3 : ((n : Int) != 46) = true := by simp; omega
        have hb : nameB s[k] = false := by rw [HB.out]; simp; omega
        have HBB : Hid _ := hb
        clear hb
        go_wp2
        go_ret
        exact ⟨by rw [nm_bad k hlt HBB.out]; rfl, rfl⟩
      · subst hc
        have hb : nameB s[k] = true := by rw [HB.out]; rfl
        have HBB : Hid _ := hb
        clear hb
        go_wp2
        go_round
        case rel => exact ⟨k + 1, by go_num, by omega, nm_step k hlt HBB.out HA.out⟩
        case measure => simp [intOf]; omega
      · have e1 : ((n : Int) != 95) = true := by simp; omega
        have d1 : decide ((n : Int) ≤ 90) = false := by simp; omega
        have e2 : ((n : Int) != 45) = true := by simp; omega
        have e3 : ((n : Int) != 46) = true := by simp; omega
        have hb : nameB s[k] = false := by rw [HB.out]; simp; omega
        have HBB : Hid _ := hb
        clear hb
        go_wp2
        go_ret
        exact ⟨by rw [nm_bad k hlt HBB.out]; rfl, rfl⟩
      · have hb : nameB s[k] = true := by rw [HB.out]; simp; omega
        have HBB : Hid _ := hb
        clear hb
        go_wp2
        go_round
        case rel => exact ⟨k + 1, by go_num, by omega, nm_step k hlt HBB.out HA.out⟩
        case measure => simp [intOf]; omega
      · have e1 : ((n : Int) != 95) = true := by simp; omega
        have d1 : decide ((n : Int) ≤ 90) = false := by simp; omega
        have d2 : decide ((n : Int) ≤ 122) = false := by simp; omega
        have e2 : ((n : Int) != 45) = true := by simp; omega
        have e3 : ((n : Int) != 46) = true := by simp; omega
        have hb : nameB s[k] = false := by rw [HB.out]; simp; omega
        have HBB : Hid _ := hb
        clear hb
        go_wp2
        go_ret
        exact ⟨by rw [nm_bad k hlt HBB.out]; rfl, rfl⟩
    · obtain rfl : k = s.size := by omega
      go_wp2
      go_ret
      exact ⟨by rw [nm_good HH.out HA.out]; rfl, rfl⟩

theorem nm_out {s : ByteArray} (h : (((s.size : Int) < 1 ∨ (16 : Int) < (s.size : Int)) ∨ (s.toList == [46]) = true) ∨ (s.toList == [46, 46]) = true) : isNm s = false := by
  rw [ByteArray.toList_eq] at h
  rcases h with ((h | h) | h) | h
  · have : s.size = 0 := by omega
    simp [isNm, this]
  · exact nm_long h
  · simp [isNm, h]
  · simp [isNm, h]

theorem nameOf_any (s : ByteArray) (w : World) :
    Calls Tryz.prog 105 #[.string s] w fun e w' => e = .returned (.bool (isNm s)) ∧ w' = w := by
  by_cases hall : (1 : Int) ≤ (s.size : Int) ∧ (s.size : Int) ≤ 16 ∧ (s.toList == [46]) = false ∧ (s.toList == [46, 46]) = false
  · exact nameOf_long s w hall.1 hall.2.1 hall.2.2.1 hall.2.2.2
  have HN : Hid _ := hall
  clear hall
  go_enter Tryz.func105, Tryz.ntmps105
  go_wp2
  · have h : s.toList = [46] := by assumption
    go_ret
    exact ⟨by rw [nm_dot h]; rfl, rfl⟩
  · have h : (((s.size : Int) < 1 ∨ (16 : Int) < (s.size : Int)) ∨ (s.toList == [46]) = true) ∨ (s.toList == [46, 46]) = true := by assumption
    go_ret
    exact ⟨by rw [nm_out h]; rfl, rfl⟩
  · have h : (((1 : Int) ≤ (s.size : Int) ∧ (s.size : Int) ≤ 16) ∧ (s.toList == [46]) = false) ∧ (s.toList == [46, 46]) = false := by assumption
    exact absurd ⟨h.1.1.1, h.1.1.2, h.1.2, h.2⟩ HN.out
  · have h : (16 : Int) < (s.size : Int) := by assumption
    go_ret
    exact ⟨by rw [nm_long h]; rfl, rfl⟩
  · have h : (s.size : Int) < 1 := by assumption
    go_ret
    exact ⟨by rw [nm_out (.inl (.inl (.inl h)))]; rfl, rfl⟩
end Go.Proofs.YtbblckcjedjbcaaGreatDoor
namespace Go.Proofs.YtbblckcjedjbcaaGreatDoor
open Go.RowKit

theorem pieces_some (s : ByteArray) (l : List UInt8) (hl : s.data.toList = 47 :: l) (h2 : s.size ≤ 65536) (w : World) :
    Calls Tryz.prog 104 #[.string s] w fun e w' =>
      ∃ b o c, e = .returned (.slice (some ⟨b, o, none⟩) (cutB (mk l)).length c) ∧ b < w'.heap.size ∧ Strs w' b o (cutB (mk l)) ∧ ((cutB (mk l)).length ≤ c ∧ c ≤ maxLen) ∧ Below w.heap.size w w' := by
  have h1 : 1 ≤ s.size := by
    have : s.data.toList.length = l.length + 1 := by rw [hl]; rfl
    simp at this
    omega
  refine (pieces_any s h1 h2 w).mono ?_
  have e1 : s.data.toList.drop 1 = l := by rw [hl]; rfl
  rw [e1]
  rintro e w' ⟨a, c, he, hL, hcap, hb⟩
  rcases hL with h | ⟨b, o, rfl, hlt, hs⟩
  · exfalso
    rw [cutB_mk] at h
    exact cutL_ne l (by simpa using h)
  · exact ⟨b, o, c, he, hlt, hs, hcap, hb⟩

/-- What Parse of the reference leaves. -/
def Parsed' (s : ByteArray) (w : World) (e : Ending) (w' : World) : Prop :=
  ∃ a c, e = .returned (.tuple #[.slice a (parse s).2.length c, .int .i64 (parse s).1]) ∧ Lst w' a (parse s).2 ∧ ((parse s).2.length ≤ c ∧ c ≤ maxLen) ∧ Below w.heap.size w w'

theorem none_of' {s : ByteArray} {w : World} {code : Int} (h : parse s = (code, [])) {w' : World} (hb : Below w.heap.size w w') {e : Ending} (he : e = .returned (.tuple #[.slice none 0 0, .int .i64 code])) : Parsed' s w e w' := by
  refine ⟨none, 0, ?_, ?_, ?_, hb⟩
  · rw [he, h]; rfl
  · rw [h]; exact .inl rfl
  · rw [h]; exact ⟨Nat.le_refl _, Nat.zero_le _⟩

set_option maxHeartbeats 1600000 in
set_option maxRecDepth 100000 in
theorem refParse_slash (s : ByteArray) (l : List UInt8) (hl : s.data.toList = 47 :: l) (w : World) (h0 : ¬ 102 < s.size) (h1 : ¬ s.data.toList = [47]) :
    Calls Tryz.prog 75 #[.string s] w (Parsed' s w) := by
  have h0' : ¬ (102 : Int) < (s.size : Int) := by omega
  have h1' : (s.toList == [47]) = false := by rw [ByteArray.toList_eq]; simpa using h1
  have hne : ¬ s.toList = [] := by rw [ByteArray.toList_eq, hl]; simp
  have hne' : s.toList.isEmpty = false := by rw [ByteArray.toList_eq, hl]; rfl
  have hpos : 0 < s.size := by
    have : s.data.toList.length = l.length + 1 := by rw [hl]; rfl
    simp at this
    omega
  have hpos' : (0 : Int) < (s.size : Int) := by omega
  have hfst : s[0].toNat = 47 := by
    have h : s[0] = s.data.toList[0]'(by simpa using hpos) := rfl
    rw [h]
    simp [hl]
  obtain ⟨n, hn⟩ : ∃ n : Nat, s[0].toNat = n := ⟨_, rfl⟩
  have hn2 : ((n : Int) != 47) = false := by rw [hn] at hfst; simp [hfst]
  clear hfst
  obtain ⟨xs, hxs⟩ : ∃ xs, cutB (mk l) = xs := ⟨_, rfl⟩
  have hp : parse s = if xs.length ≤ 6 ∧ xs.all isNm = true then (0, xs) else (10, []) := by
    rw [parse_yes h0 h1 hl, ← hxs, cutB_mk, List.length_map]
  have HPc : Hid (∀ w, Calls Tryz.prog 104 #[.string s] w fun e w' =>
      ∃ b o c, e = .returned (.slice (some ⟨b, o, none⟩) xs.length c) ∧ b < w'.heap.size ∧ Strs w' b o xs ∧ (xs.length ≤ c ∧ c ≤ maxLen) ∧ Below w.heap.size w w') := fun w => by
    rw [← hxs]
    exact pieces_some s l hl (by omega) w
  have HP : Hid _ := hp
  clear hp hl h1 hxs h0
  by_cases hN : xs.length ≤ 6
  · have hN' : (xs.length : Int) ≤ 6 := by omega
    go_enter Tryz.func75, Tryz.ntmps75
    go_wp2_with (first | (go_at_call 104; refine (HPc.out _).mono ?_; rintro e w1 ⟨b, o, c, rfl, hlt, hs, hcap, hb⟩; have HB : Hid _ := hb; have HS : Hid _ := hs; have HL : Hid _ := hlt; have HCP : Hid _ := hcap; clear hb hs hlt hcap))
    clear hne hne' hpos hpos' h0' h1' hn hn2
    go_loop [5] (fun i => ∃ k : Nat, i = .int .i64 k ∧ k ≤ xs.length ∧ (xs.take k).all isNm = true) (fun i => xs.length - (intOf i).toNat)
    case atStart => exact ⟨0, rfl, by omega, rfl⟩
    case round =>
      obtain ⟨k, rfl, hk, ha⟩ := hrel
      have HA : Hid _ := ha
      clear ha
      by_cases hlt : k < xs.length
      · obtain ⟨x, hx⟩ : ∃ x, xs[k]? = some x := ⟨xs[k], List.getElem?_eq_getElem hlt⟩
        have hc := HS.out k x hx
        have HX : Hid (xs[k]? = some x) := hx
        clear hx
        go_wp2_with (first | (go_at_call 105; refine (nameOf_any _ _).mono ?_; rintro e w' ⟨rfl, rfl⟩))
        · have hn : isNm x = false := by simpa using (show (!isNm x) = true by assumption)
          go_ret2
          exact none_of' (by rw [HP.out, if_neg (by simp [all_bad HX.out hn])]) HB.out rfl
        · have hn : isNm x = true := by simpa using (show (!isNm x) = false by assumption)
          go_round
          case rel => exact ⟨k + 1, by go_num, by omega, all_step HX.out hn HA.out⟩
          case measure => simp [intOf]; omega
      · obtain rfl : k = xs.length := by omega
        have e : xs.all isNm = true := by have := HA.out; rwa [List.take_length] at this
        have HE : Hid _ := e
        clear e
        go_wp2
        go_ret2
        have e1 : parse s = (0, xs) := by rw [HP.out, if_pos ⟨hN, HE.out⟩]
        refine ⟨some ⟨b, o, none⟩, c, ?_, ?_, ?_, HB.out⟩
        · rw [e1]; rfl
        · rw [e1]; exact .inr ⟨b, o, rfl, HL.out, HS.out⟩
        · rw [e1]; exact HCP.out
  · have hN' : (6 : Int) < (xs.length : Int) := by omega
    go_enter Tryz.func75, Tryz.ntmps75
    go_wp2_with (first | (go_at_call 104; refine (HPc.out _).mono ?_; rintro e w1 ⟨b, o, c, rfl, hlt, hs, hcap, hb⟩; have HB : Hid _ := hb; clear hb hs hlt hcap))
    go_ret2
    exact none_of' (by rw [HP.out, if_neg (by omega)]) HB.out rfl

theorem refParse_any (s : ByteArray) (w : World) :
    Calls Tryz.prog 75 #[.string s] w (Parsed' s w) := by
  by_cases h0 : 102 < s.size
  · have h0' : (102 : Int) < (s.size : Int) := by omega
    have HP : Hid _ := none_of' (s := s) (w := w) (parse_long h0) (Below.refl _ _) rfl
    go_enter Tryz.func75, Tryz.ntmps75
    go_wp2
    go_ret2
    exact HP.out
  have h0' : ¬ (102 : Int) < (s.size : Int) := by omega
  by_cases h1 : s.data.toList = [47]
  · have h1' : s.toList = [47] := by rw [ByteArray.toList_eq, h1]
    have HP : Hid _ := none_of' (s := s) (w := w) (parse_root h1) (Below.refl _ _) rfl
    clear h1
    go_enter Tryz.func75, Tryz.ntmps75
    go_wp2
    go_ret2
    exact HP.out
  have h1' : (s.toList == [47]) = false := by rw [ByteArray.toList_eq]; simpa using h1
  by_cases h2 : ∃ l, s.data.toList = 47 :: l
  · obtain ⟨l, hl⟩ := h2
    exact refParse_slash s l hl w h0 h1
  · have h2' : ∀ l, s.data.toList ≠ 47 :: l := fun l e => h2 ⟨l, e⟩
    have HP : Hid _ := none_of' (s := s) (w := w) (parse_no h0 h2') (Below.refl _ _) rfl
    cases hd : s.data.toList with
    | nil =>
      have he : s.toList = [] := by rw [ByteArray.toList_eq, hd]
      clear h2 h2' h1 hd
      go_enter Tryz.func75, Tryz.ntmps75
      go_wp2
      go_ret2
      exact HP.out
    | cons b l =>
      have hb : b ≠ 47 := fun e => h2' l (by rw [hd, e])
      have hne : ¬ s.toList = [] := by rw [ByteArray.toList_eq, hd]; simp
      have hne' : s.toList.isEmpty = false := by rw [ByteArray.toList_eq, hd]; rfl
      have hpos : 0 < s.size := by
        have : s.data.toList.length = l.length + 1 := by rw [hd]; rfl
        simp at this
        omega
      have hpos' : (0 : Int) < (s.size : Int) := by omega
      have hfst : s[0] = b := by
        have h : s[0] = s.data.toList[0]'(by simpa using hpos) := rfl
        rw [h]
        simp [hd]
      obtain ⟨n, hn⟩ : ∃ n : Nat, s[0].toNat = n := ⟨_, rfl⟩
      have hn2 : ((n : Int) != 47) = true := by
        rw [hfst] at hn
        have : n ≠ 47 := fun e => hb (UInt8.toNat_inj.mp (hn.trans e))
        simp
        omega
      clear hfst h2 h2' h1 hd hb
      go_enter Tryz.func75, Tryz.ntmps75
      go_wp2
      go_ret2
      exact HP.out
end Go.Proofs.YtbblckcjedjbcaaGreatDoor
