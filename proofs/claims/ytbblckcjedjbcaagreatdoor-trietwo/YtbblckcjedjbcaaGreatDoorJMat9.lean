import Derived.Test.YtbblckcjedjbcaaGreatDoorJRefParent
import Derived.Test.YtbblckcjedjbcaaGreatDoorCovers
import Derived.Test.YtbblckcjedjbcaaGreatDoorJOfs
import Derived.Test.YtbblckcjedjbcaaGreatDoorXMatchT
namespace Go.Proofs.YtbblckcjedjbcaaGreatDoor.J
open Go.RowKit

theorem refIs_any (s : ByteArray) (w : World) :
    Calls Tryz.prog 106 #[.string s] w fun e w' => e = .returned (.bool (isP s)) ∧ Below w.heap.size w w' := by
  obtain ⟨p, hp⟩ : ∃ p, p = parse s := ⟨_, rfl⟩
  unfold isP
  have HP : Hid (∀ w, Calls Tryz.prog 75 #[.string s] w fun e w' => ∃ a c, e = .returned (.tuple #[.slice a p.2.length c, .int .i64 p.1]) ∧ Below w.heap.size w w') := fun w => by
    refine (refParse_any s w).mono ?_
    rintro e w' ⟨a, c, h1, h2, _, h3⟩
    rw [hp]
    exact ⟨a, c, h1, h3⟩
  rw [← hp]
  clear hp
  go_enter Tryz.func106, Tryz.ntmps106
  go_wp2_with (first | (go_at_call 75; refine (HP.out _).mono ?_; rintro e w1 ⟨a, c, rfl, hb⟩; have HB : Hid _ := hb; clear hb))
  go_ret
  exact ⟨rfl, HB.out⟩

theorem refParse_is {s : ByteArray} {code : Int} {xs : List ByteArray} (h : parse s = (code, xs)) (w : World) :
    Calls Tryz.prog 75 #[.string s] w fun e w' => ∃ a c, e = .returned (.tuple #[.slice a xs.length c, .int .i64 code]) ∧ Lst w' a xs ∧ Below w.heap.size w w' := by
  refine (refParse_any s w).mono ?_
  rintro e w' ⟨a, c, h1, h2, _, h3⟩
  rw [h] at h1 h2
  exact ⟨a, c, h1, h2, h3⟩

theorem bel_miss {xs ys : List ByteArray} {k : Nat} {x y : ByteArray} (hx : xs[k]? = some x) (hy : ys[k]? = some y) (h : (x.toList != y.toList) = true) : decide (Bel ys xs) = false := by
  rw [decide_eq_false_iff_not]
  rintro ⟨_, h2⟩
  have hk : k < ys.length := by
    rw [List.getElem?_eq_some_iff] at hy
    exact hy.1
  have h3 := congrArg (·[k]?) h2
  simp only [List.getElem?_take, if_pos hk, hx, hy, Option.some.injEq] at h3
  subst h3
  simp at h
theorem take_next {xs ys : List ByteArray} {k : Nat} {x y : ByteArray} (hx : xs[k]? = some x) (hy : ys[k]? = some y) (h : (x.toList != y.toList) = false) (ht : xs.take k = ys.take k) : xs.take (k + 1) = ys.take (k + 1) := by
  have e : x = y := by
    have h1 : x.toList = y.toList := by simpa [bne] using h
    rw [ByteArray.toList_eq, ByteArray.toList_eq] at h1
    rw [← mk_data x, ← mk_data y, h1]
  rw [List.take_add_one, List.take_add_one, hx, hy, ht, e]

set_option maxHeartbeats 1600000 in
set_option maxRecDepth 100000 in
theorem refBelow_any {text above : ByteArray} {c1 c2 : Int} {xs ys : List ByteArray} (hx : parse text = (c1, xs)) (hy : parse above = (c2, ys)) (w : World) :
    Calls Tryz.prog 107 #[.string text, .string above] w fun e w' => e = .returned (.bool (decide (Bel ys xs))) ∧ Below w.heap.size w w' := by
  have lx := (parse_len hx).1
  have ly := (parse_len hy).1
  have HP1 : Hid _ := refParse_is hx
  have HP2 : Hid _ := refParse_is hy
  clear hx hy
  by_cases hle : xs.length ≤ ys.length
  · have e : decide (Bel ys xs) = false := by rw [decide_eq_false_iff_not]; rintro ⟨h, _⟩; omega
    rw [e]
    clear e
    go_enter Tryz.func107, Tryz.ntmps107
    go_wp2_with fail
    refine (HP1.out _).mono ?_
    rintro e w1 ⟨a1, k1, rfl, _, hb1⟩
    have HB1 : Hid _ := hb1
    clear hb1
    go_wp2_with fail
    refine (HP2.out _).mono ?_
    rintro e w2 ⟨a2, k2, rfl, _, hb2⟩
    have HB2 : Hid _ := trans2 HB1.out hb2
    clear hb2
    go_wp2
    go_ret
    exact ⟨rfl, HB2.out⟩
  · go_enter Tryz.func107, Tryz.ntmps107
    go_wp2_with fail
    refine (HP1.out _).mono ?_
    rintro e w1 ⟨a1, k1, rfl, hl1, hb1⟩
    have HB1 : Hid _ := hb1
    have HL1 : Hid _ := hl1
    clear hb1 hl1
    go_wp2_with fail
    refine (HP2.out _).mono ?_
    rintro e w2 ⟨a2, k2, rfl, hl2, hb2⟩
    have HB2 : Hid _ := trans2 HB1.out hb2
    have hl1 := Lst.below HL1.out hb2
    rcases hl1 with h0 | ⟨b1, o1, rfl, _, hs1⟩
    · rw [h0] at hle
      simp at hle
    have HS1 : Hid _ := hs1
    clear hb2 hs1
    by_cases hye : ys = []
    · subst hye
      have hxe : ¬ xs = [] := by rintro rfl; simp at hle
      have e : decide (Bel [] xs) = true := by
        rw [decide_eq_true_eq]
        exact ⟨by omega, rfl⟩
      have HE : Hid _ := e
      clear e
      go_wp2
      refine wp_loop_rounds 1 ?_
      rw [rounds_succ]
      go_wp2
      go_ret
      exact ⟨by rw [HE.out]; rfl, HB2.out⟩
    · rcases hl2 with h0 | ⟨b2, o2, rfl, _, hs2⟩
      · exact absurd h0 hye
      have HS2 : Hid _ := hs2
      clear hs2 hye
      go_wp2
      go_loopw [9] (fun i wr => ∃ k m : Nat, i = .int .i64 k ∧ wr = w2.drewN m ∧ k ≤ ys.length ∧ Hid (xs.take k = ys.take k)) (fun i _ => ys.length - (intOf i).toNat)
      case atStart => exact ⟨0, 0, rfl, rfl, by omega, rfl⟩
      case round =>
        obtain ⟨k, m, rfl, rfl, hk, HT⟩ := hrel
        by_cases hlt : k < ys.length
        · obtain ⟨y, hy⟩ : ∃ y, ys[k]? = some y := ⟨ys[k], List.getElem?_eq_getElem hlt⟩
          obtain ⟨x, hx⟩ : ∃ x, xs[k]? = some x := ⟨xs[k]'(by omega), List.getElem?_eq_getElem (by omega)⟩
          have hc1 := HS1.out k x hx
          have hc2 := HS2.out k y hy
          have hlt1 : (k : Int) < (xs.length : Int) := by omega
          have hlt2 : (k : Int) < (ys.length : Int) := by omega
          have HX : Hid _ := hx
          have HY : Hid _ := hy
          clear hx hy
          go_wp2
          go_quiet (fail)
          go_wp2
          · have hne : (x.toList != y.toList) = true := by assumption
            go_ret
            exact ⟨by rw [bel_miss HX.out HY.out hne]; rfl, below_drewN (below_drewN HB2.out _) _⟩
          · have heq : (x.toList != y.toList) = false := by assumption
            go_roundw
            case rel => exact ⟨k + 1, m + nq, by go_num, rfl, by omega, take_next HX.out HY.out heq HT.out⟩
            case measure => simp [intOf]; omega
        · obtain rfl : k = ys.length := by omega
          have e : decide (Bel ys xs) = true := by
            have := HT.out
            rw [List.take_length] at this
            rw [decide_eq_true_eq]
            exact ⟨by omega, this⟩
          have HE : Hid _ := e
          clear e
          go_wp2
          go_ret
          exact ⟨by rw [HE.out]; rfl, below_drewN HB2.out _⟩

theorem refCovers_watched {watched : ByteArray} (kind change : Int) (changed : ByteArray) (hw : isP watched = false) (w : World) :
    Calls Tryz.prog 78 #[.int .i64 kind, .string watched, .int .i64 change, .string changed] w fun e w' => e = .returned (.bool (covers kind watched change changed)) ∧ Below w.heap.size w w' := by
  have e : covers kind watched change changed = false := by simp [covers, hw]
  rw [e]
  have HW : Hid _ := hw
  clear hw e
  go_enter Tryz.func78, Tryz.ntmps78
  go_wp2_with fail
  refine (refIs_any watched w).mono ?_
  rw [HW.out]
  rintro e w1 ⟨rfl, hb1⟩
  have HB1 : Hid _ := hb1
  clear hb1
  go_wp2
  go_ret
  exact ⟨rfl, HB1.out⟩
theorem refCovers_changed {watched changed : ByteArray} (kind change : Int) (hw : isP watched = true) (hd : isP changed = false) (w : World) :
    Calls Tryz.prog 78 #[.int .i64 kind, .string watched, .int .i64 change, .string changed] w fun e w' => e = .returned (.bool (covers kind watched change changed)) ∧ Below w.heap.size w w' := by
  have e : covers kind watched change changed = false := by simp [covers, hd]
  rw [e]
  have HW : Hid _ := hw
  have HD : Hid _ := hd
  clear hw hd e
  go_enter Tryz.func78, Tryz.ntmps78
  go_wp2_with fail
  refine (refIs_any watched w).mono ?_
  rw [HW.out]
  rintro e w1 ⟨rfl, hb1⟩
  have HB1 : Hid _ := hb1
  clear hb1
  go_wp2_with fail
  refine (refIs_any changed w1).mono ?_
  rw [HD.out]
  rintro e w2 ⟨rfl, hb2⟩
  have HB2 : Hid _ := trans2 HB1.out hb2
  clear hb2
  go_wp2
  go_ret
  exact ⟨rfl, HB2.out⟩
theorem refCovers_change {watched changed : ByteArray} (kind change : Int) (hw : isP watched = true) (hd : isP changed = true) (hc : okC change = false) (w : World) :
    Calls Tryz.prog 78 #[.int .i64 kind, .string watched, .int .i64 change, .string changed] w fun e w' => e = .returned (.bool (covers kind watched change changed)) ∧ Below w.heap.size w w' := by
  have e : covers kind watched change changed = false := by simp [covers, hc]
  rw [e]
  have HW : Hid _ := hw
  have HD : Hid _ := hd
  have hcc : change < 1 ∨ 3 < change := by
    simp only [okC, decide_eq_false_iff_not] at hc
    omega
  clear hw hd e hc
  go_enter Tryz.func78, Tryz.ntmps78
  go_wp2_with fail
  refine (refIs_any watched w).mono ?_
  rw [HW.out]
  rintro e w1 ⟨rfl, hb1⟩
  have HB1 : Hid _ := hb1
  clear hb1
  go_wp2_with fail
  refine (refIs_any changed w1).mono ?_
  rw [HD.out]
  rintro e w2 ⟨rfl, hb2⟩
  have HB2 : Hid _ := trans2 HB1.out hb2
  clear hb2
  rcases hcc with h | h
  · go_wp2
    go_ret
    exact ⟨rfl, HB2.out⟩
  · have h1 : ¬ change < 1 := by omega
    go_wp2
    go_ret
    exact ⟨rfl, HB2.out⟩
theorem refCovers_kind {watched changed : ByteArray} (kind change : Int) (hw : isP watched = true) (hd : isP changed = true) (hc : okC change = true) (hk : kind < 1 ∨ 3 < kind) (w : World) :
    Calls Tryz.prog 78 #[.int .i64 kind, .string watched, .int .i64 change, .string changed] w fun e w' => e = .returned (.bool (covers kind watched change changed)) ∧ Below w.heap.size w w' := by
  have k1 : ¬ kind = 1 := by omega
  have k2 : ¬ kind = 2 := by omega
  have k3 : ¬ kind = 3 := by omega
  have e : covers kind watched change changed = false := by simp [covers, cov, k1, k2, k3]
  rw [e]
  have HW : Hid _ := hw
  have HD : Hid _ := hd
  have hcc : 1 ≤ change ∧ change ≤ 3 := by simpa [okC] using hc
  obtain ⟨hc1, hc2⟩ := hcc
  have d1 : decide (change < 1) = false := by simpa using hc1
  have d2 : decide (3 < change) = false := by simpa using hc2
  clear hw hd e hc k1 k2 k3
  go_enter Tryz.func78, Tryz.ntmps78
  go_wp2_with fail
  refine (refIs_any watched w).mono ?_
  rw [HW.out]
  rintro e w1 ⟨rfl, hb1⟩
  have HB1 : Hid _ := hb1
  clear hb1
  go_wp2_with fail
  refine (refIs_any changed w1).mono ?_
  rw [HD.out]
  rintro e w2 ⟨rfl, hb2⟩
  have HB2 : Hid _ := trans2 HB1.out hb2
  clear hb2
  rcases hk with h | h
  · go_wp2
    go_ret
    exact ⟨rfl, HB2.out⟩
  · have h1 : ¬ kind < 1 := by omega
    go_wp2
    go_ret
    exact ⟨rfl, HB2.out⟩

theorem child_bel {watched changed : ByteArray} {ws cs : List ByteArray} (hu : parse watched = (0, ws)) (hl : parse changed = (0, cs)) (h : childB watched changed = true) : Bel ws cs := by
  simp only [childB, hl, Bool.and_eq_true] at h
  obtain ⟨⟨_, h2⟩, h3⟩ := h
  have hne : cs ≠ [] := by intro e; rw [e] at h2; simp at h2
  have hlen : 1 ≤ cs.length := by
    cases cs with
    | nil => exact absurd rfl hne
    | cons c r => simp
  have hc := parse_len hl
  have e : placeB (cs.take (cs.length - 1)) = watched := by
    have h4 := beq_iff_eq.1 h3
    rw [ByteArray.toList_eq, ByteArray.toList_eq] at h4
    rw [← mk_data (placeB (cs.take (cs.length - 1))), h4, mk_data]
  have hp := parse_place (xs := cs.take (cs.length - 1)) (by rw [List.length_take]; omega) (all_take hc.2 _)
  rw [e, hu] at hp
  have hws : ws = cs.take (cs.length - 1) := by cases hp; rfl
  have hwl : ws.length = cs.length - 1 := by rw [hws, List.length_take]; omega
  exact ⟨by omega, by rw [hwl, ← hws]⟩

theorem refCovers_eq {watched changed : ByteArray} (kind change : Int) (hw : isP watched = true) (hd : isP changed = true) (hc : okC change = true) (hk : 1 ≤ kind ∧ kind ≤ 3) (heq : eqB changed watched = true) (w : World) :
    Calls Tryz.prog 78 #[.int .i64 kind, .string watched, .int .i64 change, .string changed] w fun e w' => e = .returned (.bool (covers kind watched change changed)) ∧ Below w.heap.size w w' := by
  have e : covers kind watched change changed = (decide (kind ≠ 2) || decide (change ≠ 2)) := by
    rcases (show kind = 1 ∨ kind = 2 ∨ kind = 3 by omega) with rfl | rfl | rfl
    · simp [covers, cov, hw, hd, hc, heq]
    · simp [covers, cov, hw, hd, hc, heq]
    · simp [covers, cov, hw, hd, hc, heq]
  rw [e]
  have HW : Hid _ := hw
  have HD : Hid _ := hd
  have hcc : 1 ≤ change ∧ change ≤ 3 := by simpa [okC] using hc
  obtain ⟨hc1, hc2⟩ := hcc
  obtain ⟨hk1, hk2⟩ := hk
  have d1 : decide (change < 1) = false := by simpa using hc1
  have d2 : decide (3 < change) = false := by simpa using hc2
  have d3 : decide (kind < 1) = false := by simpa using hk1
  have d4 : decide (3 < kind) = false := by simpa using hk2
  have heq' : (changed.toList == watched.toList) = true := heq
  clear hw hd e hc heq
  go_enter Tryz.func78, Tryz.ntmps78
  go_wp2_with fail
  refine (refIs_any watched w).mono ?_
  rw [HW.out]
  rintro e w1 ⟨rfl, hb1⟩
  have HB1 : Hid _ := hb1
  clear hb1
  go_wp2_with fail
  refine (refIs_any changed w1).mono ?_
  rw [HD.out]
  rintro e w2 ⟨rfl, hb2⟩
  have HB2 : Hid _ := trans2 HB1.out hb2
  clear hb2
  by_cases k2 : kind = 2
  · subst k2
    by_cases c2 : change = 2
    · subst c2
      go_wp2
      go_ret
      exact ⟨rfl, HB2.out⟩
    · have c2' : (change != 2) = true := by simpa using c2
      go_wp2
      go_ret
      exact ⟨by simp [c2], HB2.out⟩
  · have k2' : (kind != 2) = true := by simpa using k2
    go_wp2
    go_ret
    exact ⟨by simp [k2], HB2.out⟩

set_option maxHeartbeats 1600000 in
theorem refCovers_ne {watched changed : ByteArray} {ws cs : List ByteArray} (kind change : Int) (hu : parse watched = (0, ws)) (hl : parse changed = (0, cs)) (hc : okC change = true) (hk : 1 ≤ kind ∧ kind ≤ 3) (heq : eqB changed watched = false) (w : World) :
    Calls Tryz.prog 78 #[.int .i64 kind, .string watched, .int .i64 change, .string changed] w fun e w' => e = .returned (.bool (covers kind watched change changed)) ∧ Below w.heap.size w w' := by
  have hw : isP watched = true := by simp [isP, hu]
  have hd : isP changed = true := by simp [isP, hl]
  have HW : Hid _ := hw
  have HD : Hid _ := hd
  have e : covers kind watched change changed = cov kind change false (childB watched changed) (decide (Bel ws cs)) := by
    simp [covers, hw, hd, hc, heq, belB, hu, hl]
  rw [e]
  have hcc : 1 ≤ change ∧ change ≤ 3 := by simpa [okC] using hc
  obtain ⟨hc1, hc2⟩ := hcc
  obtain ⟨hk1, hk2⟩ := hk
  have d1 : decide (change < 1) = false := by simpa using hc1
  have d2 : decide (3 < change) = false := by simpa using hc2
  have d3 : decide (kind < 1) = false := by simpa using hk1
  have d4 : decide (3 < kind) = false := by simpa using hk2
  have heq' : (changed.toList == watched.toList) = false := heq
  have HBL : Hid _ := refBelow_any hl hu
  by_cases hbe : Bel ws cs
  · have hbd : decide (Bel ws cs) = true := by simpa using hbe
    rw [hbd] at HBL ⊢
    obtain ⟨k, hk⟩ : ∃ k, cs.length = k + 1 := ⟨cs.length - 1, by have := hbe.1; omega⟩
    obtain ⟨pb, hpb⟩ : ∃ pb, placeB (cs.take k) = pb := ⟨_, rfl⟩
    have HP : Hid (∀ w, Calls Tryz.prog 80 #[.string changed] w fun e w' => e = .returned (.tuple #[.string pb, .int .i64 0]) ∧ Below w.heap.size w w') := fun w => by
      rw [← hpb]
      exact refParent_some hl k hk w
    have ech : childB watched changed = (pb.toList == watched.toList) := by
      cases cs with
      | nil => simp at hk
      | cons y ys =>
        have hk' : (y :: ys).length - 1 = k := by omega
        simp only [childB, hl, hk', hpb]
        simp
    rw [ech]
    clear hw hd e hc heq hbe hbd ech hpb hk hu hl
    go_enter Tryz.func78, Tryz.ntmps78
    go_wp2_with fail
    refine (refIs_any watched w).mono ?_
    rw [HW.out]
    rintro e w1 ⟨rfl, hb1⟩
    have HB1 : Hid _ := hb1
    clear hb1
    go_wp2_with fail
    refine (refIs_any changed w1).mono ?_
    rw [HD.out]
    rintro e w2 ⟨rfl, hb2⟩
    have HB2 : Hid _ := trans2 HB1.out hb2
    clear hb2
    go_wp2_with fail
    refine (HBL.out _).mono ?_
    rintro e w3 ⟨rfl, hb3⟩
    have HB3 : Hid _ := trans2 HB2.out hb3
    clear hb3
    rcases (show kind = 1 ∨ kind = 2 ∨ kind = 3 by omega) with rfl | rfl | rfl
    · go_wp2
      go_ret
      exact ⟨rfl, HB3.out⟩
    · go_wp2_with fail
      refine (HP.out _).mono ?_
      rintro e w4 ⟨rfl, hb4⟩
      have HB4 : Hid _ := trans2 HB3.out hb4
      clear hb4
      by_cases c2 : change = 2
      · subst c2
        go_wp2
        go_ret
        exact ⟨rfl, HB4.out⟩
      · have c2' : (change != 2) = true := by simpa using c2
        go_wp2
        go_ret
        exact ⟨by simp [cov, c2], HB4.out⟩
    · go_wp2
      go_ret
      exact ⟨rfl, HB3.out⟩
  · have hbd : decide (Bel ws cs) = false := by simpa using hbe
    rw [hbd] at HBL ⊢
    have ech : childB watched changed = false := by
      cases h : childB watched changed
      · rfl
      · exact absurd (child_bel hu hl h) hbe
    have e2 : cov kind change false (childB watched changed) false = false := by
      rw [ech]
      rcases (show kind = 1 ∨ kind = 2 ∨ kind = 3 by omega) with rfl | rfl | rfl <;> simp [cov]
    rw [e2]
    clear hw hd e hc heq hbe hbd ech hu hl e2
    go_enter Tryz.func78, Tryz.ntmps78
    go_wp2_with fail
    refine (refIs_any watched w).mono ?_
    rw [HW.out]
    rintro e w1 ⟨rfl, hb1⟩
    have HB1 : Hid _ := hb1
    clear hb1
    go_wp2_with fail
    refine (refIs_any changed w1).mono ?_
    rw [HD.out]
    rintro e w2 ⟨rfl, hb2⟩
    have HB2 : Hid _ := trans2 HB1.out hb2
    clear hb2
    go_wp2_with fail
    refine (HBL.out _).mono ?_
    rintro e w3 ⟨rfl, hb3⟩
    have HB3 : Hid _ := trans2 HB2.out hb3
    clear hb3
    go_wp2
    go_ret
    exact ⟨rfl, HB3.out⟩

theorem refCovers_any (kind change : Int) (watched changed : ByteArray) (w : World) :
    Calls Tryz.prog 78 #[.int .i64 kind, .string watched, .int .i64 change, .string changed] w fun e w' => e = .returned (.bool (covers kind watched change changed)) ∧ Below w.heap.size w w' := by
  cases hw : isP watched
  · exact refCovers_watched kind change changed hw w
  cases hd : isP changed
  · exact refCovers_changed kind change hw hd w
  cases hc : okC change
  · exact refCovers_change kind change hw hd hc w
  by_cases hk : 1 ≤ kind ∧ kind ≤ 3
  · cases heq : eqB changed watched
    · obtain ⟨c1, ws, h1⟩ : ∃ c1 ws, parse watched = (c1, ws) := ⟨_, _, rfl⟩
      obtain ⟨c2, cs, h2⟩ : ∃ c2 cs, parse changed = (c2, cs) := ⟨_, _, rfl⟩
      have e1 : c1 = 0 := by simpa [isP, h1] using hw
      have e2 : c2 = 0 := by simpa [isP, h2] using hd
      subst e1 e2
      exact refCovers_ne kind change h1 h2 hc hk heq w
    · exact refCovers_eq kind change hw hd hc hk heq w
  · exact refCovers_kind kind change hw hd hc (by omega) w

end Go.Proofs.YtbblckcjedjbcaaGreatDoor.J
namespace Go.Proofs.YtbblckcjedjbcaaGreatDoor.J
open Go.RowKit Go.Maps
set_option linter.unusedVariables false
set_option linter.unusedSimpArgs false

theorem step_row {tS tE sz bt : Nat} {z : Value} (hu : Tryz.prog.underlying tS = some (.slice tE)) (hinfo : (Tryz.prog.info? tE).map (fun i => (i.zero, i.size, i.bytes)) = some (some z, sz, bt)) (hzs : z.cells.size = sz) (h0 : 0 < sz)
    {ops : Array Oper} {o : Oper} {a : Act} {w : World} {K : Act → World → Prop} {Q : Exit → Act → World → Prop} {E : Prop} (hgd : o.guard = none) (s x : Operand) (ho : o.op = .call { callee := .builtin .append, args := #[s, x], argTypes := #[tS, tS] })
    (base : Nat) (v : Value) (n : Nat) (xs : List Value) (hs : a.eval s = v) (hown : w.ownsRow base tE sz v n xs) (g c : Nat) (news : List Value) (hx : a.eval x = .slice (some ⟨g, 0, none⟩) 1 c) (hg : w.heap[g]? = some (.cells news.toArray tE (0, 0))) (hl : news.length = sz) (h1 : ∀ u ∈ news, u.oneCell' = true)
    (hb1 : n + 1 ≤ maxLen) (hb2 : (n + 1) * bt ≤ 140737488355328) (hB : base ≤ w.heap.size)
    (h : ∀ v' w', w'.ownsRow base tE sz v' (n + 1) (xs ++ news) → w.grownBy w' v.ownBlock → (v'.ownBlock = v.ownBlock ∨ v'.ownBlock = some w.heap.size) → K (a.put o.dst v') w') :
    if Region.wanted o (yielded ops a.tmps) = true then Oper.wp Tryz.prog o a w K Q else E := by
  have hw : Region.wanted o (yielded ops a.tmps) = true := by simp [Region.wanted, hgd]
  rw [if_pos hw]
  cases hi : Tryz.prog.info? tE with
  | none => rw [hi] at hinfo; cases hinfo
  | some i0 =>
    rw [hi] at hinfo
    simp only [Option.map_some, Option.some.injEq, Prod.mk.injEq] at hinfo
    obtain ⟨v', w', hr, g2, g3, _, g5⟩ := run_append_own_at (P := Tryz.prog) w base tS o.type tE i0 _ sz bt hu hi hinfo.1 hinfo.2.1 hinfo.2.2 hzs h0 v n xs hown ⟨g, 0, none⟩ 1 c news (by rw [hl, Nat.one_mul]) (fun j u hj => by rw [addr_add, Nat.zero_add, cell_blkD hg]; simpa using hj) h1 hb1 hb2 hB
    unfold Oper.wp execOp
    simp only [ho, resolve, invoke, builtin, Sem.run_bind, Sem.run_pure, Result.andThen_ok, List.map_toArray, List.map_cons, List.map_nil, hs, hx, hr]
    exact h v' w' g2 g3 g5
set_option maxHeartbeats 16000000 in
set_option maxRecDepth 100000 in
theorem match9 (a : Option Addr) (c n : Nat) (L : List On) (stamp ck : Int) (cp cd : ByteArray) (cv : Int) (w : World) (hL : Ns w (.slice a n c) L) (hn : L.length = n) (hl : n ≤ 100000) :
    Calls Tryz.prog 52 #[xVal (.slice a n c), .int .i64 stamp, chV ck cp cd cv] w fun e w' => ∃ v, e = .returned v ∧ w'.ownsRow w.heap.size 34 2 v (matO L stamp ck cp).length (tgCs (matO L stamp ck cp)) ∧ Below w.heap.size w w' := by
  obtain ⟨w2, hw2⟩ : ∃ w2, (w.alloc (.cells #[.bool false, .slice a n c] 69)).alloc (.cells #[.int .i64 ck, .string cp, .string cd, .int .i64 cv] 24) = w2 := ⟨_, rfl⟩
  have HB2 : Hid (Below w.heap.size w w2) := by rw [← hw2]; exact ((Below.refl _ _).alloc (Nat.le_refl _) _).alloc (by simp) _
  have HA : Hid (w2.heap[w.heap.size]? = some (.cells #[.bool false, .slice a n c] 69 (0, 0))) := by show _ = _; rw [← hw2]; exact new_old (heap_alloc_new _ _) _
  have HC : Hid (w2.heap[w.heap.size + 1]? = some (.cells #[.int .i64 ck, .string cp, .string cd, .int .i64 cv] 24 (0, 0))) := by show _ = _; rw [← hw2]; exact heap_new' (by simp)
  have HL : Hid (Ns w2 (.slice a n c) L) := hL.below HB2.out
  have HN : Hid (L.length = n) := hn
  have HW : Hid ((w.alloc (.cells #[.bool false, .slice a n c] 69)).alloc (.cells #[.int .i64 ck, .string cp, .string cd, .int .i64 cv] 24) = w2) := hw2
  clear hL hn hw2
  go_enter Tryz.func52, Tryz.ntmps52
  go_wp2_with fail
  rw [HW.out]
  go_loopw [7, 8] (fun lv iv wr => ∃ q : Nat, iv = .int .i64 q ∧ q ≤ n ∧ Hid (Below w2.heap.size w2 wr) ∧ Hid (wr.ownsRow w2.heap.size 34 2 lv (matO (L.take q) stamp ck cp).length (tgCs (matO (L.take q) stamp ck cp)))) (fun _ iv _ => n - (intOf iv).toNat)
  case atStart => exact ⟨0, rfl, Nat.zero_le _, Below.refl _ _, World.ownsRow_nil _ _ _ _⟩
  case round =>
    obtain ⟨q, rfl, hq, HBr, HO⟩ := hrel
    obtain ⟨c0, c1⟩ := cells_2 (kept_block HBr.out HA.out)
    by_cases hlt : q < n
    · have hlt' : (q : Int) < (n : Int) := by omega
      obtain ⟨x, hx⟩ : ∃ x, L[q]? = some x := ⟨L[q]'(by rw [HN.out]; exact hlt), List.getElem?_eq_getElem _⟩
      obtain ⟨g, rfl, n0, n1, n2, n3, n4⟩ := (HL.out.below HBr.out).at HN.out hx
      have HX : Hid (L[q]? = some x) := hx
      have hT := take_filter hx (matB stamp ck cp)
      have HLE : Hid ((matO (L.take q) stamp ck cp).length ≤ 100000) := by
        have h1 := List.length_filter_le (matB stamp ck cp) (L.take q)
        rw [List.length_take] at h1
        show _ ≤ _
        unfold matO
        rw [List.length_map]
        omega
      have HMB : Hid (matB stamp ck cp x = (decide (x.f < stamp) && covers x.k x.p ck cp)) := rfl
      obtain ⟨M, hM⟩ : ∃ M, matO (L.take q) stamp ck cp = M := ⟨_, rfl⟩
      have hTT : matO (L.take (q + 1)) stamp ck cp = M ++ if matB stamp ck cp x then [(x.s, x.i)] else [] := by
        rw [← hM]
        unfold matO
        rw [hT, List.map_append]
        congr 1
        split <;> rfl
      rw [hM] at HO HLE
      obtain ⟨w3, hw3⟩ : ∃ w3, wr.alloc (.cells #[.int .i64 x.i, .string x.p, .int .i64 x.k, .int .i64 x.f] 40) = w3 := ⟨_, rfl⟩
      have HB3 : Hid (Below wr.heap.size wr w3) := by rw [← hw3]; exact (Below.refl _ _).alloc (Nat.le_refl _) _
      have HW3 : Hid (w3.heap[wr.heap.size]? = some (.cells #[.int .i64 x.i, .string x.p, .int .i64 x.k, .int .i64 x.f] 40 (0, 0))) := by show _ = _; rw [← hw3]; exact heap_alloc_new _ _
      have HWW : Hid (wr.alloc (.cells #[.int .i64 x.i, .string x.p, .int .i64 x.k, .int .i64 x.f] 40) = w3) := hw3
      obtain ⟨gq, hgq⟩ : ∃ gq, wr.heap.size = gq := ⟨_, rfl⟩
      have HGQ : Hid (wr.heap.size = gq) := hgq
      obtain ⟨cvr, hcvr⟩ : ∃ b, covers x.k x.p ck cp = b := ⟨_, rfl⟩
      have HCV : Hid (∀ W, Calls Tryz.prog 78 #[.int .i64 x.k, .string x.p, .int .i64 ck, .string cp] W fun e w' => e = .returned (.bool cvr) ∧ Below W.heap.size W w') := fun W => by
        have h7 := refCovers_any x.k ck x.p cp W
        rw [hcvr] at h7
        exact h7
      rw [hcvr] at HMB
      clear hx hT hM hw3 hcvr
      obtain ⟨k0, k1, k2, k3⟩ := cells_4 (kept_block HB3.out (kept_block HBr.out HC.out))
      obtain ⟨i0, i1, i2, i3⟩ := cells_4 HW3.out
      have HIT : Hid (∀ W, Below w3.heap.size w3 W → W.heap[gq]? = some (.cells #[.int .i64 x.i, .string x.p, .int .i64 x.k, .int .i64 x.f] 40 (0, 0))) := fun W hb => by rw [← HGQ.out]; exact kept_block hb HW3.out
      go_upto_region 6 with fail
      rw [HWW.out]
      rw [hgq] at i0 i1 i2 i3
      clear hgq
      go_upto_region 7 with (first
        | (go_at_call 78; refine Calls.mono (HCV.out _) ?_; rintro e w5 ⟨rfl, hb5⟩
           have HB5 : Hid (Below w3.heap.size w3 w5) := hb5
           have HBQ : Hid (Below w2.heap.size w2 w5) := xtrans2 HBr.out (xtrans2 HB3.out hb5)
           have HO5 : Hid _ := owns_below HO.out (xtrans2 HB3.out hb5)
           clear n0 n1 n2 n3 n4 c0 c1 k0 k1 k2 k3 i0 i1 i2 i3
           obtain ⟨c0, c1⟩ := cells_2 (kept_block HBQ.out HA.out)
           obtain ⟨i0, i1, i2, i3⟩ := cells_4 (HIT.out w5 hb5)
           obtain ⟨g', he, n0, n1, n2, n3, n4⟩ := (HL.out.below HBQ.out).at HN.out HX.out
           simp only [Option.some.injEq, Addr.mk.injEq, and_true] at he
           subst he
           clear hb5)
        | fail)
      have hgo : (cvr = true ∧ x.f < stamp) ∨ (cvr = true ∧ ¬ x.f < stamp) ∨ cvr = false := by cases cvr <;> by_cases h : x.f < stamp <;> simp [h]
      rcases hgo with ⟨hc1, hf⟩ | ⟨hc1, hf⟩ | hc1
      · have hmb : matB stamp ck cp x = true := by rw [HMB.out, hc1]; simp [hf]
        rw [hmb, if_pos rfl] at hTT
        have HTT : Hid (matO (L.take (q + 1)) stamp ck cp = M ++ [(x.s, x.i)]) := hTT
        subst hc1
        clear hmb hTT
        obtain ⟨lm, hlm⟩ : ∃ lm, M.length = lm := ⟨_, rfl⟩
        have HLM : Hid (M.length = lm) := hlm
        rw [hlm] at HO5 HLE
        have hlm9 : lm ≤ 100000 := HLE.out
        obtain ⟨a7, c7, hv7⟩ := owns_shape HO5.out
        subst hv7
        clear hlm
        go_wp2_with fail
        go_region_law
          (first
          | (refine step_row Tryz.underlying37 Tryz.infoT rfl (by decide) rfl (.tmp 40) (.tmp 50) rfl w2.heap.size (.slice a7 lm c7) lm (tgCs M) (by simp [Act.eval, Act.put]) (owns_below HO5.out ((below_drew (Below.refl _ _)).alloc (Nat.le_refl _) _)) w5.heap.size 1 [.int .i64 x.s, .int .i64 x.i] (by simp [Act.eval, Act.put]) (heap_alloc_new w5.drew _) rfl (by simp [Value.oneCell']) (by unfold maxLen; omega) (by omega) (by have h1 := HBQ.out.size; show w2.heap.size ≤ (w5.drew.alloc _).heap.size; rw [World.size_alloc]; show _ ≤ w5.heap.size + 1; omega) ?_
             intro v7 w7 ho7 hg7 _
             have HB7 : Hid (Below w2.heap.size w2 w7) := ((below_drew HBQ.out).alloc HBQ.out.size _).trans ((Chg.grown hg7).below (by have h1 := HBQ.out.size; show w2.heap.size ≤ (w5.drew.alloc _).heap.size; rw [World.size_alloc]; show _ ≤ w5.heap.size + 1; omega) (fun k hk e => (row_block HO5.out k e).1))
             have HO7 : Hid (w7.ownsRow w2.heap.size 34 2 v7 (lm + 1) (tgCs M ++ [.int .i64 x.s, .int .i64 x.i])) := ho7
             clear ho7 hg7 n0 n1 n2 n3 n4 c0 c1 i0 i1 i2 i3)
          | fail)
        all_goals (
          go_wp2_with fail
          go_roundw
          case rel =>
            refine ⟨q + 1, by go_num, by omega, HB7, ?_⟩
            show World.ownsRow _ _ _ _ _ _ _
            rw [HTT.out, List.length_append, HLM.out, tgCs_append]
            exact HO7.out
          case measure => simp [intOf]; omega)
      · have hmb : matB stamp ck cp x = false := by rw [HMB.out, hc1]; simp [hf]
        rw [hmb, if_neg (by decide), List.append_nil] at hTT
        have HTT : Hid (matO (L.take (q + 1)) stamp ck cp = M) := hTT
        subst hc1
        clear hmb hTT
        go_wp2_with fail
        go_roundw
        case rel =>
          refine ⟨q + 1, by go_num, by omega, HBQ, ?_⟩
          show World.ownsRow _ _ _ _ _ _ _
          rw [HTT.out]
          exact HO5.out
        case measure => simp [intOf]; omega
      · have hmb : matB stamp ck cp x = false := by rw [HMB.out, hc1]; simp
        rw [hmb, if_neg (by decide), List.append_nil] at hTT
        have HTT : Hid (matO (L.take (q + 1)) stamp ck cp = M) := hTT
        subst hc1
        clear hmb hTT
        go_wp2_with fail
        go_roundw
        case rel =>
          refine ⟨q + 1, by go_num, by omega, HBQ, ?_⟩
          show World.ownsRow _ _ _ _ _ _ _
          rw [HTT.out]
          exact HO5.out
        case measure => simp [intOf]; omega
    · have hge : ¬ (q : Int) < (n : Int) := by omega
      have HTK : Hid (L.take q = L) := List.take_of_length_le (by rw [HN.out]; omega)
      go_wp2_with fail
      go_ret
      refine ⟨_, rfl, ?_, xtrans2 HB2.out HBr.out⟩
      have h1 := HO.out
      rw [HTK.out] at h1
      exact owns_lo h1 HB2.out.size
end Go.Proofs.YtbblckcjedjbcaaGreatDoor.J
