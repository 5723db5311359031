import Derived.Test.YtliafokjdngejaaGreatDoorParse
import Derived.Maps.AppendAt
import Derived.Test.YtliafokjdngejaaGreatDoorOf
import Derived.Laws.AppendOwnNone
namespace Go.Proofs.YtliafokjdngejaaGreatDoor
open Go.RowKit

/-- No slash from f up to k. -/
def Clear (s : ByteArray) (f k : Nat) : Prop := ∀ b ∈ (s.data.toList.drop f).take (k - f), b ≠ 47

theorem Clear.self (s : ByteArray) (f : Nat) : Clear s f f := by
  intro b hb
  rw [Nat.sub_self] at hb
  simp at hb
theorem Clear.step {s : ByteArray} {f k : Nat} (h : Clear s f k) (hf : f ≤ k) (hk : k < s.size) (hb : s[k] ≠ 47) : Clear s f (k + 1) := by
  intro b hm
  have e : k + 1 - f = (k - f) + 1 := by omega
  have hlen : k - f < (s.data.toList.drop f).length := by
    rw [List.length_drop]
    have : s.data.toList.length = s.size := by simp
    omega
  rw [e, List.take_succ_eq_append_getElem hlen, List.mem_append] at hm
  rcases hm with hm | hm
  · exact h b hm
  · rw [List.mem_singleton, List.getElem_drop] at hm
    have e2 : f + (k - f) = k := by omega
    simp only [e2] at hm
    rw [hm]
    exact hb

theorem data_extract (s : ByteArray) (f k : Nat) : (s.extract f k).data.toList = (s.data.toList.drop f).take (k - f) := by
  rw [Lib.extract_data]

theorem cut_at {s : ByteArray} {f k : Nat} (h : Clear s f k) (hf : f ≤ k) (hk : k < s.size) (hb : s[k] = 47) :
    cutL (s.data.toList.drop f) = (s.extract f k).data.toList :: cutL (s.data.toList.drop (k + 1)) := by
  have hl : k < s.data.toList.length := by simpa using hk
  have e : s.data.toList.drop f = (s.data.toList.drop f).take (k - f) ++ 47 :: s.data.toList.drop (k + 1) := by
    have e1 := (List.take_append_drop (k - f) (s.data.toList.drop f)).symm
    rw [List.drop_drop, show f + (k - f) = k by omega, List.drop_eq_getElem_cons hl] at e1
    have e2 : s.data.toList[k] = 47 := hb
    rw [e2] at e1
    exact e1
  rw [data_extract]
  conv => lhs; rw [e]
  exact cutL_pre _ _ h
theorem cut_end {s : ByteArray} {f : Nat} (h : Clear s f s.size) : cutL (s.data.toList.drop f) = [(s.extract f s.size).data.toList] := by
  have e : (s.data.toList.drop f).take (s.size - f) = s.data.toList.drop f := List.take_of_length_le (by simp)
  rw [data_extract, e]
  unfold Clear at h
  rw [e] at h
  exact cutL_all _ h

/-- What the loop has gathered at k. -/
def Gathered (s : ByteArray) (k f : Nat) (done : List ByteArray) : Prop :=
  (k ≤ s.size ∧ 1 ≤ f ∧ f ≤ k ∧ Clear s f k ∧ done.map (·.data.toList) ++ cutL (s.data.toList.drop f) = cutL (s.data.toList.drop 1)) ∨
  (k = s.size + 1 ∧ done.map (·.data.toList) = cutL (s.data.toList.drop 1))

theorem gathered_len {s : ByteArray} {k f : Nat} {done : List ByteArray} (h : Gathered s k f done) : done.length ≤ s.size + 1 := by
  have hl : (cutL (s.data.toList.drop 1)).length ≤ s.size + 1 := by
    rw [cutL_length]
    have h1 := List.count_le_length (a := 47) (l := s.data.toList.drop 1)
    have h2 : s.data.toList.length = s.size := by simp
    rw [List.length_drop] at h1
    omega
  rcases h with ⟨_, _, _, _, h⟩ | ⟨_, h⟩
  · have := congrArg List.length h
    simp only [List.length_append, List.length_map] at this
    omega
  · have := congrArg List.length h
    simp only [List.length_map] at this
    omega
theorem gathered_cut {s : ByteArray} {k f : Nat} {done : List ByteArray} (h : Gathered s k f done) (hk : k < s.size) (hb : s[k] = 47) : Gathered s (k + 1) (k + 1) (done ++ [s.extract f k]) := by
  rcases h with ⟨h1, h2, h3, h4, h5⟩ | ⟨h1, _⟩
  · refine .inl ⟨by omega, by omega, Nat.le_refl _, Clear.self _ _, ?_⟩
    rw [← h5, cut_at h4 h3 hk hb]
    simp
  · omega
theorem gathered_on {s : ByteArray} {k f : Nat} {done : List ByteArray} (h : Gathered s k f done) (hk : k < s.size) (hb : s[k] ≠ 47) : Gathered s (k + 1) f done := by
  rcases h with ⟨h1, h2, h3, h4, h5⟩ | ⟨h1, _⟩
  · exact .inl ⟨by omega, h2, by omega, h4.step h3 hk hb, h5⟩
  · omega
theorem gathered_end {s : ByteArray} {f : Nat} {done : List ByteArray} (h : Gathered s s.size f done) : Gathered s (s.size + 1) (s.size + 1) (done ++ [s.extract f s.size]) := by
  rcases h with ⟨h1, h2, h3, h4, h5⟩ | ⟨h1, _⟩
  · refine .inr ⟨rfl, ?_⟩
    rw [← h5, cut_end h4]
    simp
  · omega
theorem gathered_all {s : ByteArray} {f : Nat} {done : List ByteArray} (h : Gathered s (s.size + 1) f done) : done = cutB (mk (s.data.toList.drop 1)) := by
  rcases h with ⟨h1, _⟩ | ⟨_, h⟩
  · omega
  · rw [cutB_mk, ← h, List.map_map]
    conv => lhs; rw [← List.map_id done]
    apply List.map_congr_left
    intro x _
    exact (mk_data x).symm

theorem Tryz.info9 : (Tryz.prog.info? 9).map (fun i => (i.zero, i.size, i.bytes)) = some (some (.string ByteArray.empty), 1, 16) := by kernel_rfl

theorem lst_of_owns {w : World} {base : Nat} {v : Value} {xs : List ByteArray} (h : w.ownsRow base 9 1 v xs.length (xs.map Value.string)) :
    ∃ a c, v = .slice a xs.length c ∧ Lst w a xs ∧ (xs.length ≤ c ∧ c ≤ maxLen) := by
  rcases h.2 with ⟨rfl, h0⟩ | ⟨g, cap, cur, rfl, hg, hb, hn, hc, hs, ht⟩
  · have : xs = [] := List.eq_nil_of_length_eq_zero h0
    subst this
    exact ⟨none, 0, rfl, .inl rfl, Nat.le_refl _, Nat.zero_le _⟩
  · refine ⟨some ⟨g, 0, none⟩, cap, rfl, .inr ⟨g, 0, rfl, lt_of_block' hb, fun j x hx => ?_⟩, hn, hc⟩
    have hj : j < xs.length := by
      rw [List.getElem?_eq_some_iff] at hx
      exact hx.1
    rw [Nat.zero_add, h.cellAt j (by omega)]
    simp [hx]

theorem rel_app {w wr w1 : World} {u v' : Value} {o : Obj} {done : List ByteArray} {x : ByteArray} (hown : wr.ownsRow w.heap.size 9 1 u done.length (done.map Value.string)) (hbel : Below w.heap.size w wr)
    (hown' : w1.ownsRow w.heap.size 9 1 v' (done.length + 1) (done.map Value.string ++ [.string x])) (hgrow : (wr.alloc o).grownBy w1 u.ownBlock) :
    w1.ownsRow w.heap.size 9 1 v' (done ++ [x]).length ((done ++ [x]).map Value.string) ∧ Below w.heap.size w w1 :=
  ⟨by simpa using hown', (hbel.alloc hbel.size o).grown hgrow (by have := hbel.size; simp; omega) (fun j hj => (hown.lt j hj).1)⟩

end Go.Proofs.YtliafokjdngejaaGreatDoor
namespace Go.Proofs.YtliafokjdngejaaGreatDoor
open Go.RowKit

/-- The place of names below a place. -/
def join (base : ByteArray) (ns : List ByteArray) : Int × ByteArray :=
  if (parse base).1 ≠ 0 then ((parse base).1, ⟨#[]⟩) else
  if (parse base).2.length + ns.length ≤ 6 ∧ ns.all isNm = true then (0, placeB ((parse base).2 ++ ns)) else (10, ⟨#[]⟩)

theorem owns_of {base : Nat} {w : World} {a : Option Addr} {c : Nat} {xs : List ByteArray} (h : Own base w a c xs) (hN : xs.length ≤ 6) : w.ownsRow base 9 1 (.slice a xs.length c) xs.length (xs.map Value.string) := by
  rcases h with ⟨rfl, rfl, rfl⟩ | ⟨_, b, rfl, rfl, hle, hblk⟩
  · exact World.ownsRow_nil _ _ _ _
  · refine ⟨by simp, .inr ⟨b, xs.length, _, rfl, hle, hblk, Nat.le_refl _, by unfold maxLen; omega, by simp, ?_⟩⟩
    rw [Nat.mul_one]
    simp [List.take_of_length_le]

theorem join_err {base : ByteArray} {code : Int} (hp : parse base = (code, [])) (hc : code ≠ 0) (a : Option Addr) (c : Nat) (ns : List ByteArray) (w : World) (hg : Ground w) :
    Calls Tryz.prog 11 #[.string base, .slice a ns.length c] w fun e w' => e = .returned (.tuple #[.string (join base ns).2, .int .i64 (join base ns).1]) ∧ Below w.heap.size w w' := by
  have e : join base ns = (code, ⟨#[]⟩) := by simp [join, hp, hc]
  rw [e]
  have HP : Hid _ := parse_none hp
  have HG : Hid (Ground w) := hg
  have hc' : (code != 0) = true := by simpa using hc
  clear hp hg e
  go_enter Tryz.func11, Tryz.ntmps11
  go_wp2_with (first | (go_at_call 21; refine (HP.out _ HG.out).mono ?_; rintro e w1 ⟨rfl, hb⟩; have HB : Hid _ := hb; clear hb))
  go_ret2
  exact ⟨rfl, HB.out⟩

theorem cells_at {w : World} {ad : Addr} {ns : List ByteArray} (h : Lst w (some ad) ns) : ∀ j u, (ns.map Value.string)[j]? = some u → w.cell? (ad.add j) = some u := by
  intro j u hj
  rcases h with rfl | ⟨b, o, ha, _, hs⟩
  · simp at hj
  · have hab : ad = ⟨b, o, none⟩ := Option.some.inj ha
    subst hab
    rw [List.getElem?_map, Option.map_eq_some_iff] at hj
    obtain ⟨x, hx, rfl⟩ := hj
    have : (⟨b, o, none⟩ : Addr).add j = ⟨b, o + j, none⟩ := by unfold Addr.add; split <;> simp_all
    rw [this]
    exact hs j x hx

theorem one_cells (ns : List ByteArray) : ∀ u ∈ ns.map Value.string, u.oneCell' = true := by
  intro u hu
  rw [List.mem_map] at hu
  obtain ⟨y, _, rfl⟩ := hu
  rfl

set_option maxHeartbeats 1600000 in
set_option maxRecDepth 100000 in
theorem join_good {base : ByteArray} {xs : List ByteArray} (hp : parse base = (0, xs)) (a : Option Addr) (c : Nat) (ns : List ByteArray) (w : World) (hg : Ground w) (hl : Lst w a ns) (hn : a = none → c = 0) (hm : ns.length ≤ 9223372036854775807) :
    Calls Tryz.prog 11 #[.string base, .slice a ns.length c] w fun e w' => e = .returned (.tuple #[.string (join base ns).2, .int .i64 (join base ns).1]) ∧ Below w.heap.size w w' := by
  have hx := parse_len hp
  have e : join base ns = if xs.length + ns.length ≤ 6 ∧ ns.all isNm = true then (0, placeB (xs ++ ns)) else (10, ⟨#[]⟩) := by simp [join, hp]
  rw [e]
  clear e
  have HP : Hid (∀ w, Ground w → Calls Tryz.prog 21 #[.string base] w fun e w' => ∃ a c, e = .returned (.tuple #[.slice a xs.length c, .int .i64 0]) ∧ Own w.heap.size w' a c xs ∧ Below w.heap.size w w') := fun w hg => by
    refine (parse_any base w hg).mono ?_
    rintro e w' ⟨a, c, h1, h2, h3⟩
    rw [hp] at h1 h2
    exact ⟨a, c, h1, h2, h3⟩
  have HG : Hid (Ground w) := hg
  have HL : Hid _ := hl
  have HX : Hid _ := hx
  have hx6 : xs.length ≤ 6 := hx.1
  clear hp hg hl hx
  by_cases h6 : xs.length + ns.length ≤ 6
  · have h6' : ¬ (6 : Int) - (xs.length : Int) < (ns.length : Int) := by omega
    cases hall : ns.all isNm
    · rw [if_neg (by simp)]
      go_enter Tryz.func11, Tryz.ntmps11
      go_wp2_with fail
      refine (HP.out _ HG.out).mono ?_
      rintro e w1 ⟨a1, c1, rfl, ho1, hb1⟩
      have HB1 : Hid _ := hb1
      have HL1 : Hid _ := Lst.below HL.out hb1
      clear ho1 hb1
      go_wp2_with (first | (go_at_call 30; refine (areNames_any _ _ ns _ (HG.out.below HB1.out) HL1.out hm).mono ?_; rw [hall]; rintro e w2 ⟨rfl, rfl⟩))
      go_ret2
      exact ⟨rfl, HB1.out⟩
    · rw [if_pos ⟨h6, rfl⟩]
      obtain ⟨i0, hi, hz0, hz1, hz2⟩ := info_parts Tryz.info9
      obtain ⟨pb, hpb⟩ : ∃ pb, placeB (xs ++ ns) = pb := ⟨_, rfl⟩
      rw [hpb]
      have HPB : Hid _ := hpb
      clear hpb
      go_enter Tryz.func11, Tryz.ntmps11
      go_wp2_with fail
      refine (HP.out _ HG.out).mono ?_
      rintro e w1 ⟨a1, c1, rfl, ho1, hb1⟩
      have HB1 : Hid _ := hb1
      have HL1 : Hid _ := Lst.below HL.out hb1
      have hown := owns_of ho1 hx6
      have hbs := hb1.size
      clear ho1 hb1
      cases a with
      | none =>
        have hc0 := hn rfl
        subst hc0
        have hns : ns = [] := by
          rcases HL.out with h | ⟨b, o, h, _⟩
          · exact h
          · cases h
        subst hns
        simp only [List.length_nil]
        go_wp2_with (first
          | (go_at_call 30; refine (areNames_any _ _ [] _ (HG.out.below HB1.out) HL1.out (by decide)).mono ?_; rintro e w2 ⟨rfl, rfl⟩)
          | (at_builtin; refine wpList_append_own_none rfl _ _ 38 rfl w.heap.size 9 i0 1 Tryz.underlying38 hi _ _ _ rfl hown rfl ?_)
          | fail)
        obtain ⟨a2, c2, hv2, hL2, hcap2⟩ := lst_of_owns hown
        simp only [Value.slice.injEq, true_and] at hv2
        obtain ⟨rfl, rfl⟩ := hv2
        have hpo := placeOf_any a1 c1 xs _ hL2 hcap2.1 (by omega) HX.out.2
        rw [show placeB xs = pb by rw [← HPB.out, List.append_nil]] at hpo
        refine hpo.mono ?_
        rintro e w3 ⟨rfl, hb3⟩
        have HB3 : Hid _ := trans2 HB1.out hb3
        clear hb3 hown hL2 hcap2 hpo
        go_wp2
        go_ret2
        exact ⟨rfl, HB3.out⟩
      | some ad =>
        go_wp2_with (first
          | (go_at_call 30; refine (areNames_any _ _ ns _ (HG.out.below HB1.out) HL1.out hm).mono ?_; rw [hall]; rintro e w2 ⟨rfl, rfl⟩)
          | (at_builtin; refine wpList_append_own _ rfl _ _ 38 rfl w.heap.size 9 i0 (.string ByteArray.empty) 1 16 Tryz.underlying38 hi hz0 hz1 hz2 rfl (by decide) _ _ _ rfl hown ad ns.length c (ns.map Value.string) rfl (by simp) (cells_at HL1.out) (one_cells ns) (by unfold maxLen; omega) (by omega) hbs ?_; intro v' w2 hown' hgrow _)
          | fail)
        have hown2 : w2.ownsRow w.heap.size 9 1 v' (xs ++ ns).length ((xs ++ ns).map Value.string) := by simpa using hown'
        have HB2 : Hid (Below w.heap.size w w2) := HB1.out.grown hgrow hbs (fun j hj => (hown.lt j hj).1)
        obtain ⟨a2, c2, rfl, hL2, hcap2⟩ := lst_of_owns hown2
        refine (placeOf_any a2 c2 (xs ++ ns) w2 hL2 hcap2.1 (by simp; omega) (by rw [List.all_append, HX.out.2, hall]; rfl)).mono ?_
        rw [HPB.out]
        rintro e w3 ⟨rfl, hb3⟩
        have HB3 : Hid _ := trans2 HB2.out hb3
        clear hb3 hown hown' hown2 hL2 hcap2 hgrow
        go_wp2
        go_ret2
        exact ⟨rfl, HB3.out⟩
  · have h6' : (6 : Int) - (xs.length : Int) < (ns.length : Int) := by omega
    rw [if_neg (by omega)]
    go_enter Tryz.func11, Tryz.ntmps11
    go_wp2_with fail
    refine (HP.out _ HG.out).mono ?_
    rintro e w1 ⟨a1, c1, rfl, ho1, hb1⟩
    have HB1 : Hid _ := hb1
    clear ho1 hb1
    go_wp2
    go_ret2
    exact ⟨rfl, HB1.out⟩

theorem join_any (base : ByteArray) (a : Option Addr) (c : Nat) (ns : List ByteArray) (w : World) (hg : Ground w) (hl : Lst w a ns) (hn : a = none → c = 0) (hm : ns.length ≤ 9223372036854775807) :
    Calls Tryz.prog 11 #[.string base, .slice a ns.length c] w fun e w' => e = .returned (.tuple #[.string (join base ns).2, .int .i64 (join base ns).1]) ∧ Below w.heap.size w w' := by
  obtain ⟨code, xs, hp⟩ : ∃ code xs, parse base = (code, xs) := ⟨_, _, rfl⟩
  by_cases hc : code = 0
  · subst hc
    exact join_good hp a c ns w hg hl hn hm
  · have hx := parse_code hp hc
    subst hx
    exact join_err hp hc a c ns w hg
end Go.Proofs.YtliafokjdngejaaGreatDoor
