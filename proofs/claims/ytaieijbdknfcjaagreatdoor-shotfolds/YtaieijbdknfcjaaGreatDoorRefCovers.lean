/-
  heraldref1.Covers by a contract.
-/
import Derived.Test.YtaieijbdknfcjaaGreatDoorRefParent
import Derived.Test.YtaieijbdknfcjaaGreatDoorCovers
namespace Go.Proofs.YtaieijbdknfcjaaGreatDoor
open Go.RowKit

theorem refIs_any (s : ByteArray) (w : World) :
    Calls Tryz.prog 39 #[.string s] w fun e w' => e = .returned (.bool (isP s)) ∧ Below w.heap.size w w' := by
  obtain ⟨p, hp⟩ : ∃ p, p = parse s := ⟨_, rfl⟩
  unfold isP
  have HP : Hid (∀ w, Calls Tryz.prog 59 #[.string s] w fun e w' => ∃ a c, e = .returned (.tuple #[.slice a p.2.length c, .int .i64 p.1]) ∧ Below w.heap.size w w') := fun w => by
    refine (refParse_any s w).mono ?_
    rintro e w' ⟨a, c, h1, h2, _, h3⟩
    rw [hp]
    exact ⟨a, c, h1, h3⟩
  rw [← hp]
  clear hp
  go_enter Tryz.func39, Tryz.ntmps39
  go_wp2_with (first | (go_at_call 59; refine (HP.out _).mono ?_; rintro e w1 ⟨a, c, rfl, hb⟩; have HB : Hid _ := hb; clear hb))
  go_ret
  exact ⟨rfl, HB.out⟩

theorem refParse_is {s : ByteArray} {code : Int} {xs : List ByteArray} (h : parse s = (code, xs)) (w : World) :
    Calls Tryz.prog 59 #[.string s] w fun e w' => ∃ a c, e = .returned (.tuple #[.slice a xs.length c, .int .i64 code]) ∧ Lst w' a xs ∧ Below w.heap.size w w' := by
  refine (refParse_any s w).mono ?_
  rintro e w' ⟨a, c, h1, h2, _, h3⟩
  rw [h] at h1 h2
  exact ⟨a, c, h1, h2, h3⟩

theorem bel_miss {xs ys : List ByteArray} {k : Nat} {x y : ByteArray} (hx : xs[k]? = some x) (hy : ys[k]? = some y) (h : (x.toList != y.toList) = true) : decide (Bel ys xs) = false := by
  rw [decide_eq_false_iff_not]
  rintro ⟨_, h2⟩
  have hk : k < ys.length := by
    rw [List.getElem?_eq_some_iff] at hy
    exact hy.1
  have h3 := congrArg (·[k]?) h2
  simp only [List.getElem?_take, if_pos hk, hx, hy, Option.some.injEq] at h3
  subst h3
  simp at h
theorem take_next {xs ys : List ByteArray} {k : Nat} {x y : ByteArray} (hx : xs[k]? = some x) (hy : ys[k]? = some y) (h : (x.toList != y.toList) = false) (ht : xs.take k = ys.take k) : xs.take (k + 1) = ys.take (k + 1) := by
  have e : x = y := by
    have h1 : x.toList = y.toList := by simpa [bne] using h
    rw [ByteArray.toList_eq, ByteArray.toList_eq] at h1
    rw [← mk_data x, ← mk_data y, h1]
  rw [List.take_add_one, List.take_add_one, hx, hy, ht, e]

set_option maxHeartbeats 1600000 in
set_option maxRecDepth 100000 in
theorem refBelow_any {text above : ByteArray} {c1 c2 : Int} {xs ys : List ByteArray} (hx : parse text = (c1, xs)) (hy : parse above = (c2, ys)) (w : World) :
    Calls Tryz.prog 48 #[.string text, .string above] w fun e w' => e = .returned (.bool (decide (Bel ys xs))) ∧ Below w.heap.size w w' := by
  have lx := (parse_len hx).1
  have ly := (parse_len hy).1
  have HP1 : Hid _ := refParse_is hx
  have HP2 : Hid _ := refParse_is hy
  clear hx hy
  by_cases hle : xs.length ≤ ys.length
  · have e : decide (Bel ys xs) = false := by rw [decide_eq_false_iff_not]; rintro ⟨h, _⟩; omega
    rw [e]
    clear e
    go_enter Tryz.func48, Tryz.ntmps48
    go_wp2_with fail
    refine (HP1.out _).mono ?_
    rintro e w1 ⟨a1, k1, rfl, _, hb1⟩
    have HB1 : Hid _ := hb1
    clear hb1
    go_wp2_with fail
    refine (HP2.out _).mono ?_
    rintro e w2 ⟨a2, k2, rfl, _, hb2⟩
    have HB2 : Hid _ := trans2 HB1.out hb2
    clear hb2
    go_wp2
    go_ret
    exact ⟨rfl, HB2.out⟩
  · go_enter Tryz.func48, Tryz.ntmps48
    go_wp2_with fail
    refine (HP1.out _).mono ?_
    rintro e w1 ⟨a1, k1, rfl, hl1, hb1⟩
    have HB1 : Hid _ := hb1
    have HL1 : Hid _ := hl1
    clear hb1 hl1
    go_wp2_with fail
    refine (HP2.out _).mono ?_
    rintro e w2 ⟨a2, k2, rfl, hl2, hb2⟩
    have HB2 : Hid _ := trans2 HB1.out hb2
    have hl1 := Lst.below HL1.out hb2
    rcases hl1 with h0 | ⟨b1, o1, rfl, _, hs1⟩
    · rw [h0] at hle
      simp at hle
    have HS1 : Hid _ := hs1
    clear hb2 hs1
    by_cases hye : ys = []
    · subst hye
      have hxe : ¬ xs = [] := by rintro rfl; simp at hle
      have e : decide (Bel [] xs) = true := by
        rw [decide_eq_true_eq]
        exact ⟨by omega, rfl⟩
      have HE : Hid _ := e
      clear e
      go_wp2
      refine wp_loop_rounds 1 ?_
      rw [rounds_succ]
      go_wp2
      go_ret
      exact ⟨by rw [HE.out]; rfl, HB2.out⟩
    · rcases hl2 with h0 | ⟨b2, o2, rfl, _, hs2⟩
      · exact absurd h0 hye
      have HS2 : Hid _ := hs2
      clear hs2 hye
      go_wp2
      go_loopw [9] (fun i wr => ∃ k m : Nat, i = .int .i64 k ∧ wr = w2.drewN m ∧ k ≤ ys.length ∧ Hid (xs.take k = ys.take k)) (fun i _ => ys.length - (intOf i).toNat)
      case atStart => exact ⟨0, 0, rfl, rfl, by omega, rfl⟩
      case round =>
        obtain ⟨k, m, rfl, rfl, hk, HT⟩ := hrel
        by_cases hlt : k < ys.length
        · obtain ⟨y, hy⟩ : ∃ y, ys[k]? = some y := ⟨ys[k], List.getElem?_eq_getElem hlt⟩
          obtain ⟨x, hx⟩ : ∃ x, xs[k]? = some x := ⟨xs[k]'(by omega), List.getElem?_eq_getElem (by omega)⟩
          have hc1 := HS1.out k x hx
          have hc2 := HS2.out k y hy
          have hlt1 : (k : Int) < (xs.length : Int) := by omega
          have hlt2 : (k : Int) < (ys.length : Int) := by omega
          have HX : Hid _ := hx
          have HY : Hid _ := hy
          clear hx hy
          go_wp2
          go_quiet (fail)
          go_wp2
          · have hne : (x.toList != y.toList) = true := by assumption
            go_ret
            exact ⟨by rw [bel_miss HX.out HY.out hne]; rfl, below_drewN (below_drewN HB2.out _) _⟩
          · have heq : (x.toList != y.toList) = false := by assumption
            go_roundw
            case rel => exact ⟨k + 1, m + nq, by go_num, rfl, by omega, take_next HX.out HY.out heq HT.out⟩
            case measure => simp [intOf]; omega
        · obtain rfl : k = ys.length := by omega
          have e : decide (Bel ys xs) = true := by
            have := HT.out
            rw [List.take_length] at this
            rw [decide_eq_true_eq]
            exact ⟨by omega, this⟩
          have HE : Hid _ := e
          clear e
          go_wp2
          go_ret
          exact ⟨by rw [HE.out]; rfl, below_drewN HB2.out _⟩

theorem refCovers_watched {watched : ByteArray} (kind change : Int) (changed : ByteArray) (hw : isP watched = false) (w : World) :
    Calls Tryz.prog 45 #[.int .i64 kind, .string watched, .int .i64 change, .string changed] w fun e w' => e = .returned (.bool (covers kind watched change changed)) ∧ Below w.heap.size w w' := by
  have e : covers kind watched change changed = false := by simp [covers, hw]
  rw [e]
  have HW : Hid _ := hw
  clear hw e
  go_enter Tryz.func45, Tryz.ntmps45
  go_wp2_with fail
  refine (refIs_any watched w).mono ?_
  rw [HW.out]
  rintro e w1 ⟨rfl, hb1⟩
  have HB1 : Hid _ := hb1
  clear hb1
  go_wp2
  go_ret
  exact ⟨rfl, HB1.out⟩
theorem refCovers_changed {watched changed : ByteArray} (kind change : Int) (hw : isP watched = true) (hd : isP changed = false) (w : World) :
    Calls Tryz.prog 45 #[.int .i64 kind, .string watched, .int .i64 change, .string changed] w fun e w' => e = .returned (.bool (covers kind watched change changed)) ∧ Below w.heap.size w w' := by
  have e : covers kind watched change changed = false := by simp [covers, hd]
  rw [e]
  have HW : Hid _ := hw
  have HD : Hid _ := hd
  clear hw hd e
  go_enter Tryz.func45, Tryz.ntmps45
  go_wp2_with fail
  refine (refIs_any watched w).mono ?_
  rw [HW.out]
  rintro e w1 ⟨rfl, hb1⟩
  have HB1 : Hid _ := hb1
  clear hb1
  go_wp2_with fail
  refine (refIs_any changed w1).mono ?_
  rw [HD.out]
  rintro e w2 ⟨rfl, hb2⟩
  have HB2 : Hid _ := trans2 HB1.out hb2
  clear hb2
  go_wp2
  go_ret
  exact ⟨rfl, HB2.out⟩
theorem refCovers_change {watched changed : ByteArray} (kind change : Int) (hw : isP watched = true) (hd : isP changed = true) (hc : okC change = false) (w : World) :
    Calls Tryz.prog 45 #[.int .i64 kind, .string watched, .int .i64 change, .string changed] w fun e w' => e = .returned (.bool (covers kind watched change changed)) ∧ Below w.heap.size w w' := by
  have e : covers kind watched change changed = false := by simp [covers, hc]
  rw [e]
  have HW : Hid _ := hw
  have HD : Hid _ := hd
  have hcc : change < 1 ∨ 3 < change := by
    simp only [okC, decide_eq_false_iff_not] at hc
    omega
  clear hw hd e hc
  go_enter Tryz.func45, Tryz.ntmps45
  go_wp2_with fail
  refine (refIs_any watched w).mono ?_
  rw [HW.out]
  rintro e w1 ⟨rfl, hb1⟩
  have HB1 : Hid _ := hb1
  clear hb1
  go_wp2_with fail
  refine (refIs_any changed w1).mono ?_
  rw [HD.out]
  rintro e w2 ⟨rfl, hb2⟩
  have HB2 : Hid _ := trans2 HB1.out hb2
  clear hb2
  rcases hcc with h | h
  · go_wp2
    go_ret
    exact ⟨rfl, HB2.out⟩
  · have h1 : ¬ change < 1 := by omega
    go_wp2
    go_ret
    exact ⟨rfl, HB2.out⟩
theorem refCovers_kind {watched changed : ByteArray} (kind change : Int) (hw : isP watched = true) (hd : isP changed = true) (hc : okC change = true) (hk : kind < 1 ∨ 3 < kind) (w : World) :
    Calls Tryz.prog 45 #[.int .i64 kind, .string watched, .int .i64 change, .string changed] w fun e w' => e = .returned (.bool (covers kind watched change changed)) ∧ Below w.heap.size w w' := by
  have k1 : ¬ kind = 1 := by omega
  have k2 : ¬ kind = 2 := by omega
  have k3 : ¬ kind = 3 := by omega
  have e : covers kind watched change changed = false := by simp [covers, cov, k1, k2, k3]
  rw [e]
  have HW : Hid _ := hw
  have HD : Hid _ := hd
  have hcc : 1 ≤ change ∧ change ≤ 3 := by simpa [okC] using hc
  obtain ⟨hc1, hc2⟩ := hcc
  have d1 : decide (change < 1) = false := by simpa using hc1
  have d2 : decide (3 < change) = false := by simpa using hc2
  clear hw hd e hc k1 k2 k3
  go_enter Tryz.func45, Tryz.ntmps45
  go_wp2_with fail
  refine (refIs_any watched w).mono ?_
  rw [HW.out]
  rintro e w1 ⟨rfl, hb1⟩
  have HB1 : Hid _ := hb1
  clear hb1
  go_wp2_with fail
  refine (refIs_any changed w1).mono ?_
  rw [HD.out]
  rintro e w2 ⟨rfl, hb2⟩
  have HB2 : Hid _ := trans2 HB1.out hb2
  clear hb2
  rcases hk with h | h
  · go_wp2
    go_ret
    exact ⟨rfl, HB2.out⟩
  · have h1 : ¬ kind < 1 := by omega
    go_wp2
    go_ret
    exact ⟨rfl, HB2.out⟩

theorem child_bel {watched changed : ByteArray} {ws cs : List ByteArray} (hu : parse watched = (0, ws)) (hl : parse changed = (0, cs)) (h : childB watched changed = true) : Bel ws cs := by
  simp only [childB, hl, Bool.and_eq_true] at h
  obtain ⟨⟨_, h2⟩, h3⟩ := h
  have hne : cs ≠ [] := by intro e; rw [e] at h2; simp at h2
  have hlen : 1 ≤ cs.length := by
    cases cs with
    | nil => exact absurd rfl hne
    | cons c r => simp
  have hc := parse_len hl
  have e : placeB (cs.take (cs.length - 1)) = watched := by
    have h4 := beq_iff_eq.1 h3
    rw [ByteArray.toList_eq, ByteArray.toList_eq] at h4
    rw [← mk_data (placeB (cs.take (cs.length - 1))), h4, mk_data]
  have hp := parse_place (xs := cs.take (cs.length - 1)) (by rw [List.length_take]; omega) (all_take hc.2 _)
  rw [e, hu] at hp
  have hws : ws = cs.take (cs.length - 1) := by cases hp; rfl
  have hwl : ws.length = cs.length - 1 := by rw [hws, List.length_take]; omega
  exact ⟨by omega, by rw [hwl, ← hws]⟩

theorem refCovers_eq {watched changed : ByteArray} (kind change : Int) (hw : isP watched = true) (hd : isP changed = true) (hc : okC change = true) (hk : 1 ≤ kind ∧ kind ≤ 3) (heq : eqB changed watched = true) (w : World) :
    Calls Tryz.prog 45 #[.int .i64 kind, .string watched, .int .i64 change, .string changed] w fun e w' => e = .returned (.bool (covers kind watched change changed)) ∧ Below w.heap.size w w' := by
  have e : covers kind watched change changed = (decide (kind ≠ 2) || decide (change ≠ 2)) := by
    rcases (show kind = 1 ∨ kind = 2 ∨ kind = 3 by omega) with rfl | rfl | rfl
    · simp [covers, cov, hw, hd, hc, heq]
    · simp [covers, cov, hw, hd, hc, heq]
    · simp [covers, cov, hw, hd, hc, heq]
  rw [e]
  have HW : Hid _ := hw
  have HD : Hid _ := hd
  have hcc : 1 ≤ change ∧ change ≤ 3 := by simpa [okC] using hc
  obtain ⟨hc1, hc2⟩ := hcc
  obtain ⟨hk1, hk2⟩ := hk
  have d1 : decide (change < 1) = false := by simpa using hc1
  have d2 : decide (3 < change) = false := by simpa using hc2
  have d3 : decide (kind < 1) = false := by simpa using hk1
  have d4 : decide (3 < kind) = false := by simpa using hk2
  have heq' : (changed.toList == watched.toList) = true := heq
  clear hw hd e hc heq
  go_enter Tryz.func45, Tryz.ntmps45
  go_wp2_with fail
  refine (refIs_any watched w).mono ?_
  rw [HW.out]
  rintro e w1 ⟨rfl, hb1⟩
  have HB1 : Hid _ := hb1
  clear hb1
  go_wp2_with fail
  refine (refIs_any changed w1).mono ?_
  rw [HD.out]
  rintro e w2 ⟨rfl, hb2⟩
  have HB2 : Hid _ := trans2 HB1.out hb2
  clear hb2
  by_cases k2 : kind = 2
  · subst k2
    by_cases c2 : change = 2
    · subst c2
      go_wp2
      go_ret
      exact ⟨rfl, HB2.out⟩
    · have c2' : (change != 2) = true := by simpa using c2
      go_wp2
      go_ret
      exact ⟨by simp [c2], HB2.out⟩
  · have k2' : (kind != 2) = true := by simpa using k2
    go_wp2
    go_ret
    exact ⟨by simp [k2], HB2.out⟩

set_option maxHeartbeats 1600000 in
theorem refCovers_ne {watched changed : ByteArray} {ws cs : List ByteArray} (kind change : Int) (hu : parse watched = (0, ws)) (hl : parse changed = (0, cs)) (hc : okC change = true) (hk : 1 ≤ kind ∧ kind ≤ 3) (heq : eqB changed watched = false) (w : World) :
    Calls Tryz.prog 45 #[.int .i64 kind, .string watched, .int .i64 change, .string changed] w fun e w' => e = .returned (.bool (covers kind watched change changed)) ∧ Below w.heap.size w w' := by
  have hw : isP watched = true := by simp [isP, hu]
  have hd : isP changed = true := by simp [isP, hl]
  have HW : Hid _ := hw
  have HD : Hid _ := hd
  have e : covers kind watched change changed = cov kind change false (childB watched changed) (decide (Bel ws cs)) := by
    simp [covers, hw, hd, hc, heq, belB, hu, hl]
  rw [e]
  have hcc : 1 ≤ change ∧ change ≤ 3 := by simpa [okC] using hc
  obtain ⟨hc1, hc2⟩ := hcc
  obtain ⟨hk1, hk2⟩ := hk
  have d1 : decide (change < 1) = false := by simpa using hc1
  have d2 : decide (3 < change) = false := by simpa using hc2
  have d3 : decide (kind < 1) = false := by simpa using hk1
  have d4 : decide (3 < kind) = false := by simpa using hk2
  have heq' : (changed.toList == watched.toList) = false := heq
  have HBL : Hid _ := refBelow_any hl hu
  by_cases hbe : Bel ws cs
  · have hbd : decide (Bel ws cs) = true := by simpa using hbe
    rw [hbd] at HBL ⊢
    obtain ⟨k, hk⟩ : ∃ k, cs.length = k + 1 := ⟨cs.length - 1, by have := hbe.1; omega⟩
    obtain ⟨pb, hpb⟩ : ∃ pb, placeB (cs.take k) = pb := ⟨_, rfl⟩
    have HP : Hid (∀ w, Calls Tryz.prog 61 #[.string changed] w fun e w' => e = .returned (.tuple #[.string pb, .int .i64 0]) ∧ Below w.heap.size w w') := fun w => by
      rw [← hpb]
      exact refParent_some hl k hk w
    have ech : childB watched changed = (pb.toList == watched.toList) := by
      cases cs with
      | nil => simp at hk
      | cons y ys =>
        have hk' : (y :: ys).length - 1 = k := by omega
        simp only [childB, hl, hk', hpb]
        simp
    rw [ech]
    clear hw hd e hc heq hbe hbd ech hpb hk hu hl
    go_enter Tryz.func45, Tryz.ntmps45
    go_wp2_with fail
    refine (refIs_any watched w).mono ?_
    rw [HW.out]
    rintro e w1 ⟨rfl, hb1⟩
    have HB1 : Hid _ := hb1
    clear hb1
    go_wp2_with fail
    refine (refIs_any changed w1).mono ?_
    rw [HD.out]
    rintro e w2 ⟨rfl, hb2⟩
    have HB2 : Hid _ := trans2 HB1.out hb2
    clear hb2
    go_wp2_with fail
    refine (HBL.out _).mono ?_
    rintro e w3 ⟨rfl, hb3⟩
    have HB3 : Hid _ := trans2 HB2.out hb3
    clear hb3
    rcases (show kind = 1 ∨ kind = 2 ∨ kind = 3 by omega) with rfl | rfl | rfl
    · go_wp2
      go_ret
      exact ⟨rfl, HB3.out⟩
    · go_wp2_with fail
      refine (HP.out _).mono ?_
      rintro e w4 ⟨rfl, hb4⟩
      have HB4 : Hid _ := trans2 HB3.out hb4
      clear hb4
      by_cases c2 : change = 2
      · subst c2
        go_wp2
        go_ret
        exact ⟨rfl, HB4.out⟩
      · have c2' : (change != 2) = true := by simpa using c2
        go_wp2
        go_ret
        exact ⟨by simp [cov, c2], HB4.out⟩
    · go_wp2
      go_ret
      exact ⟨rfl, HB3.out⟩
  · have hbd : decide (Bel ws cs) = false := by simpa using hbe
    rw [hbd] at HBL ⊢
    have ech : childB watched changed = false := by
      cases h : childB watched changed
      · rfl
      · exact absurd (child_bel hu hl h) hbe
    have e2 : cov kind change false (childB watched changed) false = false := by
      rw [ech]
      rcases (show kind = 1 ∨ kind = 2 ∨ kind = 3 by omega) with rfl | rfl | rfl <;> simp [cov]
    rw [e2]
    clear hw hd e hc heq hbe hbd ech hu hl e2
    go_enter Tryz.func45, Tryz.ntmps45
    go_wp2_with fail
    refine (refIs_any watched w).mono ?_
    rw [HW.out]
    rintro e w1 ⟨rfl, hb1⟩
    have HB1 : Hid _ := hb1
    clear hb1
    go_wp2_with fail
    refine (refIs_any changed w1).mono ?_
    rw [HD.out]
    rintro e w2 ⟨rfl, hb2⟩
    have HB2 : Hid _ := trans2 HB1.out hb2
    clear hb2
    go_wp2_with fail
    refine (HBL.out _).mono ?_
    rintro e w3 ⟨rfl, hb3⟩
    have HB3 : Hid _ := trans2 HB2.out hb3
    clear hb3
    go_wp2
    go_ret
    exact ⟨rfl, HB3.out⟩

theorem refCovers_any (kind change : Int) (watched changed : ByteArray) (w : World) :
    Calls Tryz.prog 45 #[.int .i64 kind, .string watched, .int .i64 change, .string changed] w fun e w' => e = .returned (.bool (covers kind watched change changed)) ∧ Below w.heap.size w w' := by
  cases hw : isP watched
  · exact refCovers_watched kind change changed hw w
  cases hd : isP changed
  · exact refCovers_changed kind change hw hd w
  cases hc : okC change
  · exact refCovers_change kind change hw hd hc w
  by_cases hk : 1 ≤ kind ∧ kind ≤ 3
  · cases heq : eqB changed watched
    · obtain ⟨c1, ws, h1⟩ : ∃ c1 ws, parse watched = (c1, ws) := ⟨_, _, rfl⟩
      obtain ⟨c2, cs, h2⟩ : ∃ c2 cs, parse changed = (c2, cs) := ⟨_, _, rfl⟩
      have e1 : c1 = 0 := by simpa [isP, h1] using hw
      have e2 : c2 = 0 := by simpa [isP, h2] using hd
      subst e1 e2
      exact refCovers_ne kind change h1 h2 hc hk heq w
    · exact refCovers_eq kind change hw hd hc hk heq w
  · exact refCovers_kind kind change hw hd hc (by omega) w

end Go.Proofs.YtaieijbdknfcjaaGreatDoor
