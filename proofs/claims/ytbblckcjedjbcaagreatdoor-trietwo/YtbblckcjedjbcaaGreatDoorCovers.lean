import Derived.Test.YtbblckcjedjbcaaGreatDoorOf
import Derived.Test.YtbblckcjedjbcaaGreatDoorWay
namespace Go.Proofs.YtbblckcjedjbcaaGreatDoor
open Go.RowKit

theorem parent_err {s : ByteArray} {code : Int} (h : parse s = (code, [])) (hc : code ≠ 0) (w : World) (hg : Ground w) :
    Calls Tryz.prog 115 #[.string s] w fun e w' => e = .returned (.tuple #[.string ⟨#[]⟩, .int .i64 code]) ∧ Below w.heap.size w w' := by
  have HP : Hid _ := belowRoot_err h hc
  have hc' : (code != 0) = true := by simpa using hc
  have HG : Hid (Ground w) := hg
  clear hg h
  go_enter Tryz.func115, Tryz.ntmps115
  go_wp2_with (first | (go_at_call 129; refine (HP.out _ HG.out).mono ?_; rintro e w1 ⟨rfl, hb⟩; have HB : Hid _ := hb; clear hb))
  go_ret2
  exact ⟨rfl, HB.out⟩
theorem parent_root {s : ByteArray} (h : parse s = (0, [])) (w : World) (hg : Ground w) :
    Calls Tryz.prog 115 #[.string s] w fun e w' => e = .returned (.tuple #[.string ⟨#[]⟩, .int .i64 47]) ∧ Below w.heap.size w w' := by
  have HP : Hid _ := belowRoot_root h
  have HG : Hid (Ground w) := hg
  clear hg h
  go_enter Tryz.func115, Tryz.ntmps115
  go_wp2_with (first | (go_at_call 129; refine (HP.out _ HG.out).mono ?_; rintro e w1 ⟨rfl, hb⟩; have HB : Hid _ := hb; clear hb))
  go_ret2
  exact ⟨rfl, HB.out⟩

theorem lst_take {w : World} {b : Nat} {xs : List ByteArray} (h : w.heap[b]? = some (.cells (xs.map Value.string).toArray 9 (0, 0))) (k : Nat) : Lst w (some ⟨b, 0, none⟩) (xs.take k) := by
  refine .inr ⟨b, 0, rfl, lt_of_block' h, fun j x hx => strs_of_block h j x ?_⟩
  rw [List.getElem?_take] at hx
  split at hx
  · exact hx
  · cases hx
theorem all_take {xs : List ByteArray} (h : xs.all isNm = true) (k : Nat) : (xs.take k).all isNm = true := by
  rw [List.all_eq_true] at h ⊢
  exact fun x hx => h x (List.mem_of_mem_take hx)

theorem parent_some {s : ByteArray} {xs : List ByteArray} (h : parse s = (0, xs)) (k : Nat) (hk : xs.length = k + 1) (w : World) (hg : Ground w) :
    Calls Tryz.prog 115 #[.string s] w fun e w' => e = .returned (.tuple #[.string (placeB (xs.take k)), .int .i64 0]) ∧ Below w.heap.size w w' := by
  have hl := parse_len h
  have HP : Hid _ := belowRoot_some h (fun e => by rw [e] at hk; simp at hk)
  have HG : Hid (Ground w) := hg
  have htl : (xs.take k).length = k := by rw [List.length_take]; omega
  have hk6 : k ≤ 5 := by omega
  have HN : Hid (xs.all isNm = true) := hl.2
  have HT : Hid ((xs.take k).length = k) := htl
  obtain ⟨pb, hpb⟩ : ∃ pb, placeB (xs.take k) = pb := ⟨_, rfl⟩
  rw [hpb]
  have HPB : Hid (placeB (xs.take k) = pb) := hpb
  clear hg h hl htl hpb
  go_enter Tryz.func115, Tryz.ntmps115
  go_wp2_with fail
  refine (HP.out _ HG.out).mono ?_
  rintro e w1 ⟨b, rfl, _, hblk, hb⟩
  have HB : Hid _ := hb
  have HO : Hid (∀ c, k ≤ c → Calls Tryz.prog 130 #[.slice (some ⟨b, 0, none⟩) k c] w1 fun e w' => e = .returned (.string pb) ∧ Below w1.heap.size w1 w') := fun c hc => by
    have := placeOf_any (some ⟨b, 0, none⟩) c (xs.take k) w1 (lst_take hblk k) (by rw [HT.out]; exact hc) (by rw [HT.out]; omega) (all_take HN.out k)
    rw [HT.out, HPB.out] at this
    exact this
  clear hb hblk
  go_wp2_with (first | (go_at_call 130; refine (HO.out _ (by omega)).mono ?_; rintro e w2 ⟨rfl, hb2⟩; have HB2 : Hid _ := hb2; clear hb2))
  go_ret2
  exact ⟨rfl, HB.out.trans (HB2.out.mono HB.out.size)⟩

end Go.Proofs.YtbblckcjedjbcaaGreatDoor
namespace Go.Proofs.YtbblckcjedjbcaaGreatDoor
open Go.RowKit

def isP (s : ByteArray) : Bool := (parse s).1 == 0
def childB (up low : ByteArray) : Bool :=
  match parse low with
  | (c, xs) => c == 0 && !xs.isEmpty && ((placeB (xs.take (xs.length - 1))).toList == up.toList)
def belB (up low : ByteArray) : Bool := decide (Bel (parse up).2 (parse low).2)
def eqB (a b : ByteArray) : Bool := a.toList == b.toList
def okC (change : Int) : Bool := decide (1 ≤ change ∧ change ≤ 3)
/-- Is a change one for a watch? -/
def cov (kind change : Int) (eq ch be : Bool) : Bool :=
  if kind = 1 then eq else if kind = 2 then (decide (change ≠ 2)) && (eq || ch) else if kind = 3 then eq || be else false
def covers (kind : Int) (watched : ByteArray) (change : Int) (changed : ByteArray) : Bool :=
  isP watched && okC change && isP changed && cov kind change (eqB changed watched) (childB watched changed) (belB watched changed)

theorem isPlace_any (s : ByteArray) (w : World) (hg : Ground w) :
    Calls Tryz.prog 85 #[.string s] w fun e w' => e = .returned (.bool (isP s)) ∧ Below w.heap.size w w' := by
  have HG : Hid (Ground w) := hg
  have HP : Hid _ := parse_any s
  obtain ⟨p, hp⟩ : ∃ p, p = parse s := ⟨_, rfl⟩
  unfold isP
  have HP : Hid (∀ w, Ground w → Calls Tryz.prog 30 #[.string s] w fun e w' => ∃ a c, e = .returned (.tuple #[.slice a p.2.length c, .int .i64 p.1]) ∧ Below w.heap.size w w') := fun w hg => by
    refine (parse_any s w hg).mono ?_
    rintro e w' ⟨a, c, h1, h2, h3⟩
    rw [hp]
    exact ⟨a, c, h1, h3⟩
  rw [← hp]
  clear hg hp
  go_enter Tryz.func85, Tryz.ntmps85
  go_wp2_with (first | (go_at_call 30; refine (HP.out _ HG.out).mono ?_; rintro e w1 ⟨a, c, rfl, hb⟩; have HB : Hid _ := hb; clear hb))
  go_ret
  exact ⟨rfl, HB.out⟩

theorem isChange_any (n : Int) (w : World) :
    Calls Tryz.prog 86 #[.int .i64 n] w fun e w' => e = .returned (.bool (okC n)) ∧ w' = w := by
  by_cases h1 : n = 1
  · subst h1
    go_enter Tryz.func86, Tryz.ntmps86
    go_wp2
    go_ret
    exact ⟨rfl, rfl⟩
  by_cases h2 : n = 2
  · subst h2
    go_enter Tryz.func86, Tryz.ntmps86
    go_wp2
    go_ret
    exact ⟨rfl, rfl⟩
  by_cases h3 : n = 3
  · subst h3
    go_enter Tryz.func86, Tryz.ntmps86
    go_wp2
    go_ret
    exact ⟨rfl, rfl⟩
  · have e : okC n = false := by simp [okC]; omega
    rw [e]
    have e1 : (n == 1) = false := by simpa using h1
    have e2 : (n == 2) = false := by simpa using h2
    have e3 : (n == 3) = false := by simpa using h3
    go_enter Tryz.func86, Tryz.ntmps86
    go_wp2
    go_ret
    exact ⟨rfl, rfl⟩

theorem isChild_any (up low : ByteArray) (w : World) (hg : Ground w) :
    Calls Tryz.prog 87 #[.string up, .string low] w fun e w' => e = .returned (.bool (childB up low)) ∧ Below w.heap.size w w' := by
  have HG : Hid (Ground w) := hg
  clear hg
  obtain ⟨code, xs, hp⟩ : ∃ code xs, parse low = (code, xs) := ⟨_, _, rfl⟩
  by_cases hc : code = 0
  · subst hc
    by_cases hx : xs = []
    · subst hx
      have HP : Hid _ := parent_root hp
      have e : childB up low = false := by simp [childB, hp]
      rw [e]
      clear hp e
      go_enter Tryz.func87, Tryz.ntmps87
      go_wp2_with (first | (go_at_call 115; refine (HP.out _ HG.out).mono ?_; rintro e w1 ⟨rfl, hb⟩; have HB : Hid _ := hb; clear hb))
      go_ret
      exact ⟨rfl, HB.out⟩
    · obtain ⟨k, hk⟩ : ∃ k, xs.length = k + 1 := ⟨xs.length - 1, by cases xs with | nil => exact absurd rfl hx | cons y ys => simp⟩
      obtain ⟨pb, hpb⟩ : ∃ pb, placeB (xs.take k) = pb := ⟨_, rfl⟩
      have HP : Hid (∀ w, Ground w → Calls Tryz.prog 115 #[.string low] w fun e w' => e = .returned (.tuple #[.string pb, .int .i64 0]) ∧ Below w.heap.size w w') := fun w hg => by
        rw [← hpb]
        exact parent_some hp k hk w hg
      have e : childB up low = (pb.toList == up.toList) := by
        cases xs with
        | nil => exact absurd rfl hx
        | cons y ys =>
          have hk' : (y :: ys).length - 1 = k := by omega
          simp only [childB, hp, hk', hpb]
          simp
      rw [e]
      clear hp e hpb hk hx
      go_enter Tryz.func87, Tryz.ntmps87
      go_wp2_with (first | (go_at_call 115; refine (HP.out _ HG.out).mono ?_; rintro e w1 ⟨rfl, hb⟩; have HB : Hid _ := hb; clear hb))
      go_ret
      exact ⟨rfl, HB.out⟩
  · have hx : xs = [] := parse_code hp hc
    subst hx
    have HP : Hid _ := parent_err hp hc
    have e : childB up low = false := by simp [childB, hp]
    rw [e]
    have hc' : (code == 0) = false := by simpa using hc
    clear hp e
    go_enter Tryz.func87, Tryz.ntmps87
    go_wp2_with (first | (go_at_call 115; refine (HP.out _ HG.out).mono ?_; rintro e w1 ⟨rfl, hb⟩; have HB : Hid _ := hb; clear hb))
    go_ret
    exact ⟨rfl, HB.out⟩

theorem place_size {xs : List ByteArray} (hN : xs.length ≤ 6) (h : xs.all isNm = true) : (placeB xs).size ≤ 102 := by
  unfold placeB
  split
  · decide
  · rw [size_mk]
    have := flat_len xs h
    omega

theorem isBelow_any {up low : ByteArray} {ws cs : List ByteArray} (hu : parse up = (0, ws)) (hl : parse low = (0, cs)) (w : World) :
    Calls Tryz.prog 88 #[.string up, .string low] w fun e w' => e = .returned (.bool (belB up low)) ∧ w' = w := by
  have e0 : belB up low = decide (Bel ws cs) := by simp [belB, hu, hl]
  have hw := parse_len hu
  have hc := parse_len hl
  have bu := parse_back hu
  have bl := parse_back hl
  rw [e0]
  cases ws with
  | nil =>
    have hr : up = ⟨#[47]⟩ := bu.symm
    subst hr
    cases cs with
    | nil =>
      have hr2 : low = ⟨#[47]⟩ := bl.symm
      subst hr2
      have e : decide (Bel ([] : List ByteArray) []) = false := by decide
      rw [e]
      clear hu hl e0 hw hc bu bl e
      go_enter Tryz.func88, Tryz.ntmps88
      go_wp2
      go_ret
      exact ⟨rfl, rfl⟩
    | cons c cs =>
      have e : decide (Bel ([] : List ByteArray) (c :: cs)) = true := by simp [Bel]
      rw [e]
      have hne : (low.toList == [47]) = false := by
        rw [beq_eq_false_iff_ne, ByteArray.toList_eq]
        intro h
        rw [parse_root h] at hl
        cases hl
      have hne' : (low.toList != [47]) = true := by simp [bne, hne]
      clear hu hl e0 hw hc bu bl e
      go_enter Tryz.func88, Tryz.ntmps88
      go_wp2
      go_ret
      exact ⟨rfl, rfl⟩
  | cons u ws =>
    have hne : (up.toList == [47]) = false := by
      rw [beq_eq_false_iff_ne, ByteArray.toList_eq]
      intro h
      rw [parse_root h] at hu
      cases hu
    have hsz : up.size ≤ 102 := by rw [← bu]; exact place_size hw.1 hw.2
    have hd : up.data.toList = flatN (u :: ws) := by rw [← bu, placeB, if_neg (by simp), data_mk]
    have h47 : (⟨#[47]⟩ : ByteArray).size = 1 := rfl
    have hadd : (Op.stringOp .add up ⟨#[47]⟩).run Tryz.prog w = .ok (.string (mk (flatN (u :: ws) ++ [47]))) w := by
      rw [run_string_add_sum w _ _ (by rw [h47]; omega)]
      have : up ++ ⟨#[47]⟩ = mk (flatN (u :: ws) ++ [47]) := by
        conv => lhs; rw [← mk_data up, hd]
        exact ByteArray.mk_append_mk _ [47]
      rw [this]
    have hpre : Lib.hasPrefix low.data.toList (flatN (u :: ws) ++ [47]) = decide (Bel (u :: ws) cs) := by
      unfold Lib.hasPrefix
      rw [Bool.eq_iff_iff, List.isPrefixOf_iff_prefix, decide_eq_true_eq]
      cases cs with
      | nil =>
        have hr2 : low = ⟨#[47]⟩ := bl.symm
        subst hr2
        constructor
        · rintro ⟨t, ht⟩
          have hlen := congrArg List.length ht
          have h1 : 1 ≤ (flatN (u :: ws)).length := by simp [flatN]
          simp at hlen
          omega
        · rintro ⟨h, _⟩
          simp at h
      | cons c r =>
        have hdl : low.data.toList = flatN (c :: r) := by rw [← bl, placeB, if_neg (by simp), data_mk]
        rw [hdl]
        exact pre_bel _ _ hw.2 hc.2
    have HH : Hid (∀ w, Calls Tryz.prog 116 #[.string low, .string (mk (flatN (u :: ws) ++ [47]))] w fun e w' => e = .returned (.bool (decide (Bel (u :: ws) cs))) ∧ w' = w) := fun w => by
      have := Tryz.strings_HasPrefix low (mk (flatN (u :: ws) ++ [47])) w
      rw [data_mk, hpre] at this
      exact this
    clear hu hl e0 hw hc bu bl hsz hd h47 hpre
    generalize mk (flatN (u :: ws) ++ [47]) = pre at *
    generalize decide (Bel (u :: ws) cs) = res at *
    go_enter Tryz.func88, Tryz.ntmps88
    go_wp2_with (first | (go_at_call 116; refine (HH.out _).mono ?_; rintro e w1 ⟨rfl, rfl⟩))
    go_ret
    exact ⟨rfl, rfl⟩

theorem covers_watched {watched : ByteArray} (kind change : Int) (changed : ByteArray) (hw : isP watched = false) (w : World) (hg : Ground w) :
    Calls Tryz.prog 61 #[.int .i64 kind, .string watched, .int .i64 change, .string changed] w fun e w' => e = .returned (.bool (covers kind watched change changed)) ∧ Below w.heap.size w w' := by
  have e : covers kind watched change changed = false := by simp [covers, hw]
  rw [e]
  have HG : Hid (Ground w) := hg
  have HP : Hid _ := isPlace_any watched
  have HW : Hid _ := hw
  clear hg hw e
  go_enter Tryz.func61, Tryz.ntmps61
  go_wp2_with fail
  refine (HP.out _ HG.out).mono ?_
  rw [HW.out]
  rintro e w1 ⟨rfl, hb⟩
  have HB : Hid _ := hb
  clear hb
  go_wp2
  go_ret
  exact ⟨rfl, HB.out⟩
theorem covers_change {watched : ByteArray} (kind change : Int) (changed : ByteArray) (hw : isP watched = true) (hc : okC change = false) (w : World) (hg : Ground w) :
    Calls Tryz.prog 61 #[.int .i64 kind, .string watched, .int .i64 change, .string changed] w fun e w' => e = .returned (.bool (covers kind watched change changed)) ∧ Below w.heap.size w w' := by
  have e : covers kind watched change changed = false := by simp [covers, hc]
  rw [e]
  have HG : Hid (Ground w) := hg
  have HP : Hid _ := isPlace_any watched
  have HW : Hid _ := hw
  have HC : Hid _ := hc
  clear hg hw hc e
  go_enter Tryz.func61, Tryz.ntmps61
  go_wp2_with fail
  refine (HP.out _ HG.out).mono ?_
  rw [HW.out]
  rintro e w1 ⟨rfl, hb⟩
  have HB : Hid _ := hb
  clear hb
  go_wp2_with fail
  refine (isChange_any change w1).mono ?_
  rw [HC.out]
  rintro e w2 ⟨rfl, rfl⟩
  go_wp2
  go_ret
  exact ⟨rfl, HB.out⟩
theorem covers_changed {watched : ByteArray} (kind change : Int) (changed : ByteArray) (hw : isP watched = true) (hc : okC change = true) (hd : isP changed = false) (w : World) (hg : Ground w) :
    Calls Tryz.prog 61 #[.int .i64 kind, .string watched, .int .i64 change, .string changed] w fun e w' => e = .returned (.bool (covers kind watched change changed)) ∧ Below w.heap.size w w' := by
  have e : covers kind watched change changed = false := by simp [covers, hd]
  rw [e]
  have HG : Hid (Ground w) := hg
  have HP : Hid _ := isPlace_any watched
  have HP2 : Hid _ := isPlace_any changed
  have HW : Hid _ := hw
  have HC : Hid _ := hc
  have HD : Hid _ := hd
  clear hg hw hc hd e
  go_enter Tryz.func61, Tryz.ntmps61
  go_wp2_with fail
  refine (HP.out _ HG.out).mono ?_
  rw [HW.out]
  rintro e w1 ⟨rfl, hb⟩
  have HB : Hid _ := hb
  clear hb
  go_wp2_with fail
  refine (isChange_any change w1).mono ?_
  rw [HC.out]
  rintro e w2 ⟨rfl, rfl⟩
  go_wp2_with fail
  refine (HP2.out _ (HG.out.below HB.out)).mono ?_
  rw [HD.out]
  rintro e w2 ⟨rfl, hb2⟩
  have HB2 : Hid _ := trans2 HB.out hb2
  clear hb2
  go_wp2
  go_ret
  exact ⟨rfl, HB2.out⟩

set_option maxHeartbeats 1600000 in
theorem covers_good {watched changed : ByteArray} {ws cs : List ByteArray} (kind change : Int) (hu : parse watched = (0, ws)) (hl : parse changed = (0, cs)) (hc : okC change = true) (w : World) (hg : Ground w) :
    Calls Tryz.prog 61 #[.int .i64 kind, .string watched, .int .i64 change, .string changed] w fun e w' => e = .returned (.bool (covers kind watched change changed)) ∧ Below w.heap.size w w' := by
  have hw : isP watched = true := by simp [isP, hu]
  have hd : isP changed = true := by simp [isP, hl]
  have e0 : covers kind watched change changed = cov kind change (eqB changed watched) (childB watched changed) (belB watched changed) := by simp [covers, hw, hd, hc]
  rw [e0]
  have HG : Hid (Ground w) := hg
  have HP : Hid _ := isPlace_any watched
  have HP2 : Hid _ := isPlace_any changed
  have HK : Hid _ := isChild_any watched changed
  have HB0 : Hid _ := isBelow_any hu hl
  have HW : Hid _ := hw
  have HC : Hid _ := hc
  have HD : Hid _ := hd
  obtain ⟨ch, hch⟩ : ∃ ch, childB watched changed = ch := ⟨_, rfl⟩
  obtain ⟨be, hbe⟩ : ∃ be, belB watched changed = be := ⟨_, rfl⟩
  rw [hch] at HK
  rw [hbe] at HB0
  rw [hch, hbe]
  clear hg hw hd hc e0 hch hbe hu hl
  have eqv : eqB changed watched = (changed.toList == watched.toList) := rfl
  rw [eqv]
  clear eqv
  go_enter Tryz.func61, Tryz.ntmps61
  go_wp2_with fail
  refine (HP.out _ HG.out).mono ?_
  rw [HW.out]
  rintro e w1 ⟨rfl, hb⟩
  have HB : Hid _ := hb
  clear hb
  go_wp2_with fail
  refine (isChange_any change w1).mono ?_
  rw [HC.out]
  rintro e w2 ⟨rfl, rfl⟩
  go_wp2_with fail
  refine (HP2.out _ (HG.out.below HB.out)).mono ?_
  rw [HD.out]
  rintro e w3 ⟨rfl, hb2⟩
  have HB2 : Hid _ := trans2 HB.out hb2
  clear hb2
  by_cases k1 : kind = 1
  · subst k1
    go_wp2
    go_ret
    exact ⟨rfl, HB2.out⟩
  have k1' : (kind == 1) = false := by simpa using k1
  by_cases k2 : kind = 2
  · subst k2
    by_cases c2 : change = 2
    · subst c2
      go_wp2
      go_ret
      exact ⟨rfl, HB2.out⟩
    have c2' : (change != 2) = true := by simpa using c2
    cases heq : (changed.toList == watched.toList)
    · go_wp2_with (first | (go_at_call 87; refine (HK.out _ (HG.out.below HB2.out)).mono ?_; rintro e w4 ⟨rfl, hb4⟩; have HB4 : Hid _ := hb4; clear hb4))
      go_ret
      exact ⟨by rw [heq]; simp [cov, c2], trans2 HB2.out HB4.out⟩
    · go_wp2
      go_ret
      exact ⟨by rw [heq]; simp [cov, c2], HB2.out⟩
  have k2' : (kind == 2) = false := by simpa using k2
  by_cases k3 : kind = 3
  · subst k3
    cases heq : (changed.toList == watched.toList)
    · go_wp2_with (first | (go_at_call 88; refine (HB0.out _).mono ?_; rintro e w4 ⟨rfl, rfl⟩))
      go_ret
      exact ⟨by rw [heq]; simp [cov], HB2.out⟩
    · go_wp2
      go_ret
      exact ⟨by rw [heq]; simp [cov], HB2.out⟩
  have k3' : (kind == 3) = false := by simpa using k3
  go_wp2
  go_ret
  exact ⟨by simp [cov, k1, k2, k3], HB2.out⟩

theorem covers_any (kind change : Int) (watched changed : ByteArray) (w : World) (hg : Ground w) :
    Calls Tryz.prog 61 #[.int .i64 kind, .string watched, .int .i64 change, .string changed] w fun e w' => e = .returned (.bool (covers kind watched change changed)) ∧ Below w.heap.size w w' := by
  cases hw : isP watched
  · exact covers_watched kind change changed hw w hg
  cases hc : okC change
  · exact covers_change kind change changed hw hc w hg
  cases hd : isP changed
  · exact covers_changed kind change changed hw hc hd w hg
  obtain ⟨c1, ws, h1⟩ : ∃ c1 ws, parse watched = (c1, ws) := ⟨_, _, rfl⟩
  obtain ⟨c2, cs, h2⟩ : ∃ c2 cs, parse changed = (c2, cs) := ⟨_, _, rfl⟩
  have e1 : c1 = 0 := by simpa [isP, h1] using hw
  have e2 : c2 = 0 := by simpa [isP, h2] using hd
  subst e1 e2
  exact covers_good kind change h1 h2 hc w hg
end Go.Proofs.YtbblckcjedjbcaaGreatDoor
