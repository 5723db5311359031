/-
  Clean by a contract.
-/
import Derived.Test.YtblhenblibdjoabDoorOf
import Derived.WalkMore
import Derived.Maps.AppendAt
import Derived.Test.YtblhenblibdjoabDoorPieces
namespace Go.Proofs.YtblhenblibdjoabDoor
open Go.RowKit

def isE (p : ByteArray) : Bool := p.data.toList == []
def isD (p : ByteArray) : Bool := p.data.toList == [46]
def isDD (p : ByteArray) : Bool := p.data.toList == [46, 46]
/-- One piece more. -/
def step (p : ByteArray) (st : List ByteArray) : Option (List ByteArray) :=
  if isE p || isD p then some st else if isDD p then (if st = [] then none else some st.dropLast) else if isNm p then some (st ++ [p]) else none
def cleanL : List ByteArray → List ByteArray → Option (List ByteArray)
  | [], st => some st
  | p :: ps, st => match step p st with
    | none => none
    | some st' => cleanL ps st'
def clean (s : ByteArray) : Int × ByteArray :=
  if 65536 < s.size then (2, ⟨#[]⟩) else
  match s.data.toList with
  | [] => (10, ⟨#[]⟩)
  | b :: l => if b = 47 then (match cleanL (cutB (mk l)) [] with
    | none => (10, ⟨#[]⟩)
    | some st => if 6 < st.length then (10, ⟨#[]⟩) else (0, placeB st)) else (10, ⟨#[]⟩)

theorem Tryd.info9' : (Tryd.prog.info? 9).map (fun i => (i.zero, i.size, i.bytes)) = some (some (.string ByteArray.empty), 1, 16) := by kernel_rfl

theorem clean_yes {s : ByteArray} {l : List UInt8} (h0 : ¬ 65536 < s.size) (h : s.data.toList = 47 :: l) :
    clean s = (match cleanL (cutB (mk l)) [] with
      | none => (10, ⟨#[]⟩)
      | some st => if 6 < st.length then (10, ⟨#[]⟩) else (0, placeB st)) := by
  rw [clean, if_neg h0, h]
  exact if_pos rfl
theorem clean_no {s : ByteArray} (h0 : ¬ 65536 < s.size) (h : ∀ l, s.data.toList ≠ 47 :: l) : clean s = (10, ⟨#[]⟩) := by
  rw [clean, if_neg h0]
  cases hl : s.data.toList with
  | nil => rfl
  | cons b l => exact if_neg (fun e => h l (by rw [hl, e]))

/-- The stack at piece k. -/
def At (xs : List ByteArray) (k : Nat) (st : List ByteArray) : Prop := cleanL (xs.drop k) st = cleanL xs [] ∧ st.all isNm = true ∧ st.length ≤ k

theorem At.start (xs : List ByteArray) : At xs 0 [] := ⟨rfl, rfl, Nat.le_refl _⟩
theorem At.next {xs st st' : List ByteArray} {k : Nat} {x : ByteArray} (h : At xs k st) (hx : xs[k]? = some x) (hs : step x st = some st') (ha : st'.all isNm = true) (hl : st'.length ≤ k + 1) : At xs (k + 1) st' := by
  have hk : k < xs.length := by
    rw [List.getElem?_eq_some_iff] at hx
    exact hx.1
  have e : xs.drop k = x :: xs.drop (k + 1) := by
    rw [List.drop_eq_getElem_cons hk]
    rw [List.getElem?_eq_getElem hk] at hx
    rw [Option.some.inj hx]
  refine ⟨?_, ha, hl⟩
  rw [← h.1, e, cleanL, hs]
theorem At.fail {xs st : List ByteArray} {k : Nat} {x : ByteArray} (h : At xs k st) (hx : xs[k]? = some x) (hs : step x st = none) : cleanL xs [] = none := by
  have hk : k < xs.length := by
    rw [List.getElem?_eq_some_iff] at hx
    exact hx.1
  have e : xs.drop k = x :: xs.drop (k + 1) := by
    rw [List.drop_eq_getElem_cons hk]
    rw [List.getElem?_eq_getElem hk] at hx
    rw [Option.some.inj hx]
  rw [← h.1, e, cleanL, hs]
theorem At.done {xs st : List ByteArray} (h : At xs xs.length st) : cleanL xs [] = some st := by
  rw [← h.1, List.drop_length]
  rfl

theorem step_none {x : ByteArray} {st : List ByteArray} (h : x.toList = [] ∨ x.toList = [46]) : step x st = some st := by
  rw [ByteArray.toList_eq] at h
  rcases h with h | h <;> simp [step, isE, isD, h]
theorem step_up {x : ByteArray} {st : List ByteArray} (h : x.toList = [46, 46]) : step x st = if st = [] then none else some st.dropLast := by
  rw [ByteArray.toList_eq] at h
  simp [step, isE, isD, isDD, h]
theorem step_name {x : ByteArray} {st : List ByteArray} (h1 : ¬ x.toList = []) (h2 : ¬ x.toList = [46]) (h3 : ¬ x.toList = [46, 46]) : step x st = if isNm x = true then some (st ++ [x]) else none := by
  rw [ByteArray.toList_eq] at h1 h2 h3
  have e1 : isE x = false := by unfold isE; rw [beq_eq_false_iff_ne]; exact h1
  have e2 : isD x = false := by unfold isD; rw [beq_eq_false_iff_ne]; exact h2
  have e3 : isDD x = false := by unfold isDD; rw [beq_eq_false_iff_ne]; exact h3
  simp [step, e1, e2, e3]
theorem all_dropLast {st : List ByteArray} (h : st.all isNm = true) : st.dropLast.all isNm = true := by
  rw [List.all_eq_true] at h ⊢
  exact fun x hx => h x (List.dropLast_subset _ hx)

theorem rel_app' {W wr w1 : World} {B : Nat} {u v' : Value} {o : Obj} {done : List ByteArray} {x : ByteArray} (hB : B ≤ wr.heap.size) (hown : wr.ownsRow B 9 1 u done.length (done.map Value.string)) (hbel : Below B W wr)
    (hown' : w1.ownsRow B 9 1 v' (done.length + 1) (done.map Value.string ++ [.string x])) (hgrow : (wr.alloc o).grownBy w1 u.ownBlock) :
    w1.ownsRow B 9 1 v' (done ++ [x]).length ((done ++ [x]).map Value.string) ∧ Below B W w1 :=
  ⟨by simpa using hown', (hbel.alloc hB o).grown hgrow (by simp; omega) (fun j hj => (hown.lt j hj).1)⟩

set_option maxHeartbeats 8000000 in
set_option maxRecDepth 100000 in
theorem clean_slash (s : ByteArray) (l : List UInt8) (hl : s.data.toList = 47 :: l) (h0 : ¬ 65536 < s.size) (w : World) (hg : Ground w) :
    Calls Tryd.prog 10 #[.string s] w fun e w' => e = .returned (.tuple #[.string (clean s).2, .int .i64 (clean s).1]) ∧ Below w.heap.size w w' := by
  obtain ⟨i0, hi, hz0, hz1, hz2⟩ := info_parts Tryd.info9'
  have d0 : decide ((65536 : Int) < (s.size : Int)) = false := by simp; omega
  have hcl := clean_yes h0 hl
  obtain ⟨xs, hxs⟩ : ∃ xs, cutB (mk l) = xs := ⟨_, rfl⟩
  rw [hxs] at hcl
  have HCL : Hid _ := hcl
  have HC : Hid _ := cutPrefix_yes s l hl
  have hsz : (mk l).size ≤ 65536 := by
    rw [size_mk]
    have : s.data.toList.length = l.length + 1 := by rw [hl]; rfl
    simp at this
    omega
  have HS : Hid (∀ w, Ground w → Calls Tryd.prog 30 #[.string (mk l), .string ⟨#[47]⟩] w fun e w' => e = .returned (.slice (some ⟨w.heap.size, 0, none⟩) xs.length xs.length) ∧ w' = w.alloc (.cells (xs.map Value.string).toArray 9)) :=
    fun w hg => by rw [← hxs]; exact split_any (mk l) (by omega) w hg
  have HG : Hid (Ground w) := hg
  have hlen : xs.length ≤ 65537 := by
    rw [← hxs, cutB_mk, List.length_map, cutL_length]
    have := List.count_le_length (a := 47) (l := l)
    rw [size_mk] at hsz
    omega
  clear hg hl hxs h0 hcl
  generalize mk l = rest at *
  go_enter Tryd.func10, Tryd.ntmps10
  go_wp2
  go_step3
  go_wp2_with (first
    | (go_at_call 29; refine (HC.out _).mono ?_; rintro e w' ⟨rfl, rfl⟩))
  go_step3
  go_wp2_with fail
  refine (HS.out _ HG.out).mono ?_
  rintro e W ⟨rfl, hW⟩
  have hWs : W.heap.size = w'.heap.size + 1 := by rw [hW]; simp
  have HST : Hid (Strs W w'.heap.size 0 xs) := by rw [hW]; exact strs_new _ _
  have HBW : Hid (Below w'.heap.size w' W) := by rw [hW]; exact (Below.refl _ _).alloc (Nat.le_refl _) _
  clear hW HC HS
  go_wp2
  go_loopw [6, 22] (fun v i wr => ∃ (k : Nat) (st : List ByteArray), i = .int .i64 k ∧ k ≤ xs.length ∧ wr.ownsRow W.heap.size 9 1 v st.length (st.map Value.string) ∧ Below W.heap.size W wr ∧ Hid (At xs k st)) (fun _ i _ => xs.length - (intOf i).toNat)
  case atStart => exact ⟨0, [], rfl, Nat.zero_le _, World.ownsRow_nil _ _ _ _, Below.refl _ _, At.start xs⟩
  case round =>
    obtain ⟨k, st, rfl, hk, hown, hbel, HA⟩ := hrel
    have hst : st.length ≤ 65537 := by have := HA.out.2.2; omega
    by_cases hlt : k < xs.length
    · obtain ⟨x, hx⟩ : ∃ x, xs[k]? = some x := ⟨xs[k], List.getElem?_eq_getElem hlt⟩
      have hcell : wr.cell? ⟨w'.heap.size, k, none⟩ = some (.string x) := by
        rw [hbel.cell (p := ⟨w'.heap.size, k, none⟩) (by show w'.heap.size < W.heap.size; omega)]
        have := HST.out k x hx
        rwa [Nat.zero_add] at this
      have HX : Hid _ := hx
      clear hx
      by_cases hE : x.toList = []
      · have HN : Hid _ := At.next HA.out HX.out (step_none (.inl hE)) HA.out.2.1 (by have := HA.out.2.2; omega)
        go_wp2
        go_roundw
        case rel => exact ⟨k + 1, st, by go_num, by omega, hown, hbel, HN.out⟩
        case measure => simp [intOf]; omega
      have hE' : x.toList.isEmpty = false := by simpa using hE
      by_cases hD : x.toList = [46]
      · have HN : Hid _ := At.next HA.out HX.out (step_none (.inr hD)) HA.out.2.1 (by have := HA.out.2.2; omega)
        clear hE hE'
        go_wp2
        go_roundw
        case rel => exact ⟨k + 1, st, by go_num, by omega, hown, hbel, HN.out⟩
        case measure => simp [intOf]; omega
      have hD' : (x.toList == [46]) = false := by simpa using hD
      by_cases hDD : x.toList = [46, 46]
      · clear hE hE' hD hD'
        by_cases hse : st = []
        · have HF : Hid (clean s = (10, ⟨#[]⟩)) := by
            have := HCL.out
            rw [At.fail HA.out HX.out (by rw [step_up hDD, if_pos hse])] at this
            exact this
          subst hse
          rcases hown.2 with ⟨rfl, _⟩ | ⟨g, cap, cur, rfl, _⟩
          · go_wp2
            try rw [Exit.noGoto_ret]
            go_ret2
            exact ⟨by rw [HF.out]; rfl, HBW.out.trans (hbel.mono HBW.out.size)⟩
          · simp only [List.length_nil]
            go_wp2
            try rw [Exit.noGoto_ret]
            go_ret2
            exact ⟨by rw [HF.out]; rfl, HBW.out.trans (hbel.mono HBW.out.size)⟩
        · obtain ⟨m, hm⟩ : ∃ m, st.length = m + 1 := ⟨st.length - 1, by cases st with | nil => exact absurd rfl hse | cons y ys => simp⟩
          have hdl : st.dropLast.length = m := by rw [List.length_dropLast]; omega
          have HN : Hid _ := At.next HA.out HX.out (show step x st = some st.dropLast by rw [step_up hDD, if_neg hse]) (all_dropLast HA.out.2.1) (by have := HA.out.2.2; omega)
          rcases hown.2 with ⟨_, h0⟩ | ⟨g, cap, cur, rfl, _, _, hncap, hcapm, _, _⟩
          · omega
          have hsplit : st.map Value.string = st.dropLast.map Value.string ++ [.string (st.getLast hse)] := by
            conv => lhs; rw [← List.dropLast_concat_getLast hse]
            simp
          have hpop : wr.ownsRow W.heap.size 9 1 (.slice (some ⟨g, 0, none⟩) m cap) st.dropLast.length (st.dropLast.map Value.string) := by
            rw [hdl]
            refine ownsRow_pop (last := [.string (st.getLast hse)]) (by simp; omega) ?_
            rw [← hsplit, ← hm]
            exact hown
          have HPOP : Hid _ := hpop
          have hcap2 : m + 1 ≤ cap := by omega
          have hcap3 : cap ≤ 9223372036854775807 := by unfold maxLen at hcapm; omega
          have hm0 : ((m : Int) + 1 == 0) = false := by simp; omega
          clear hown hpop hsplit hse hncap hcapm hdl HA
          go_wp2
          go_roundw
          case rel => exact ⟨k + 1, _, by go_num, by omega, HPOP.out, hbel, HN.out⟩
          case measure => simp [intOf]; omega
      have hDD' : (x.toList == [46, 46]) = false := by simpa using hDD
      have hstep := step_name (st := st) hE hD hDD
      cases hnm : isNm x
      · have HF : Hid (clean s = (10, ⟨#[]⟩)) := by
          have := HCL.out
          rw [At.fail HA.out HX.out (by rw [hstep, hnm]; rfl)] at this
          exact this
        have HGw : Hid (Ground wr) := (HG.out.below HBW.out).below hbel
        clear hstep
        go_wp2_with (first | (go_at_call 31; refine (isName_any _ _ HGw.out).mono ?_; rw [hnm]; rintro e w8 ⟨rfl, rfl⟩))
        try rw [Exit.noGoto_ret]
        go_ret2
        exact ⟨by rw [HF.out]; rfl, HBW.out.trans (hbel.mono HBW.out.size)⟩
      · have HN : Hid _ := At.next HA.out HX.out (show step x st = some (st ++ [x]) by rw [hstep, if_pos hnm]) (by rw [List.all_append, HA.out.2.1]; simp [hnm]) (by have := HA.out.2.2; simp; omega)
        have HGw : Hid (Ground wr) := (HG.out.below HBW.out).below hbel
        have hbs := hbel.size
        clear hstep
        go_wp2_with (first
          | (go_at_call 31; refine (isName_any _ _ HGw.out).mono ?_; rw [hnm]; rintro e w8 ⟨rfl, rfl⟩)
          | (at_builtin; refine wpList_append_own _ rfl _ _ 37 rfl W.heap.size 9 i0 (.string ByteArray.empty) 1 16 Tryd.underlying37 hi hz0 hz1 hz2 rfl (by decide) _ _ _ rfl (hown.alloc _) ⟨_, 0, none⟩ 1 1 [.string x] rfl rfl (cell_one_new _ _ _) (fun x hx => by simp at hx; subst hx; rfl) (by unfold maxLen; omega) (by omega) (by simp; omega) ?_; intro v' w1 hown' hgrow _))
        have R := rel_app' hbs hown hbel hown' hgrow
        go_roundw
        case rel => exact ⟨k + 1, st ++ [x], by go_num, by omega, R.1, R.2, HN.out⟩
        case measure => simp [intOf]; omega
    · obtain rfl : k = xs.length := by omega
      have hdone := At.done HA.out
      have hclean := HCL.out
      rw [hdone] at hclean
      simp only at hclean
      obtain ⟨a, c, hv, hL, hcap⟩ := lst_of_owns hown
      subst hv
      by_cases h6 : 6 < st.length
      · rw [if_pos h6] at hclean
        have HF : Hid _ := hclean
        have h6' : (6 : Int) < (st.length : Int) := by omega
        clear hclean hdone hown hL hcap
        go_wp2
        try rw [Exit.noGoto_ret]
        go_ret2
        exact ⟨by rw [HF.out]; rfl, HBW.out.trans (hbel.mono HBW.out.size)⟩
      · rw [if_neg h6] at hclean
        have HF : Hid _ := hclean
        have h6' : ¬ (6 : Int) < (st.length : Int) := by omega
        have HO : Hid _ := placeOf_any a c st wr hL hcap.1 (by omega) HA.out.2.1
        clear hclean hdone hown hL hcap
        go_wp2_with fail
        refine Calls.mono HO.out ?_
        rintro e w9 ⟨rfl, hb9⟩
        have HB9 : Hid _ := hb9
        clear hb9
        go_wp2
        try rw [Exit.noGoto_ret]
        go_ret2
        exact ⟨by rw [HF.out]; rfl, (HBW.out.trans (hbel.mono HBW.out.size)).trans (HB9.out.mono (Nat.le_trans HBW.out.size hbel.size))⟩

theorem clean_any (s : ByteArray) (w : World) (hg : Ground w) :
    Calls Tryd.prog 10 #[.string s] w fun e w' => e = .returned (.tuple #[.string (clean s).2, .int .i64 (clean s).1]) ∧ Below w.heap.size w w' := by
  by_cases h0 : 65536 < s.size
  · refine (clean_long h0 w).mono ?_
    rintro e w' ⟨he, rfl⟩
    have e1 : clean s = (2, ⟨#[]⟩) := by rw [clean, if_pos h0]
    exact ⟨by rw [he, e1], Below.refl _ _⟩
  by_cases h2 : ∃ l, s.data.toList = 47 :: l
  · obtain ⟨l, hl⟩ := h2
    exact clean_slash s l hl h0 w hg
  · have h2' : ∀ l, s.data.toList ≠ 47 :: l := fun l e => h2 ⟨l, e⟩
    have HF : Hid _ := clean_no h0 h2'
    have HC : Hid _ := cutPrefix_no s h2'
    have d0 : decide ((65536 : Int) < (s.size : Int)) = false := by simp; omega
    clear hg h2 h2' h0
    go_enter Tryd.func10, Tryd.ntmps10
    go_wp2
    go_step3
    go_wp2_with (first
      | (go_at_call 29; refine (HC.out _).mono ?_; rintro e w' ⟨rfl, rfl⟩))
    try rw [Exit.noGoto_ret]
    go_ret2
    exact ⟨by rw [HF.out]; rfl, Below.refl _ _⟩
end Go.Proofs.YtblhenblibdjoabDoor
