import Derived.Test.YtliafokjdngejaaGreatDoorWay
import Derived.Test.YtliafokjdngejaaGreatDoorParent
import Derived.Test.YtliafokjdngejaaGreatDoorTBase
import Derived.Test.YtliafokjdngejaaGreatDoorLine
import Derived.Sort.KeysCollected
import Derived.Maps.RangeWalk
import Derived.WalkSpells
import Derived.Sort.OwnSorted
namespace Go.Proofs.YtliafokjdngejaaGreatDoor
open Go.RowKit

def isP (s : ByteArray) : Bool := (parse s).1 == 0
def childB (up low : ByteArray) : Bool :=
  match parse low with
  | (c, xs) => c == 0 && !xs.isEmpty && ((placeB (xs.take (xs.length - 1))).toList == up.toList)
def belB (up low : ByteArray) : Bool := decide (Bel (parse up).2 (parse low).2)
def eqB (a b : ByteArray) : Bool := a.toList == b.toList
def okC (change : Int) : Bool := decide (1 ≤ change ∧ change ≤ 3)
/-- Is a change one for a watch? -/
def cov (kind change : Int) (eq ch be : Bool) : Bool :=
  if kind = 1 then eq else if kind = 2 then (decide (change ≠ 2)) && (eq || ch) else if kind = 3 then eq || be else false
def covers (kind : Int) (watched : ByteArray) (change : Int) (changed : ByteArray) : Bool :=
  isP watched && okC change && isP changed && cov kind change (eqB changed watched) (childB watched changed) (belB watched changed)

theorem isPlace_any (s : ByteArray) (w : World) (hg : Ground w) :
    Calls Tryz.prog 96 #[.string s] w fun e w' => e = .returned (.bool (isP s)) ∧ Below w.heap.size w w' := by
  have HG : Hid (Ground w) := hg
  have HP : Hid _ := parse_any s
  obtain ⟨p, hp⟩ : ∃ p, p = parse s := ⟨_, rfl⟩
  unfold isP
  have HP : Hid (∀ w, Ground w → Calls Tryz.prog 21 #[.string s] w fun e w' => ∃ a c, e = .returned (.tuple #[.slice a p.2.length c, .int .i64 p.1]) ∧ Below w.heap.size w w') := fun w hg => by
    refine (parse_any s w hg).mono ?_
    rintro e w' ⟨a, c, h1, h2, h3⟩
    rw [hp]
    exact ⟨a, c, h1, h3⟩
  rw [← hp]
  clear hg hp
  go_enter Tryz.func96, Tryz.ntmps96
  go_wp2_with (first | (go_at_call 21; refine (HP.out _ HG.out).mono ?_; rintro e w1 ⟨a, c, rfl, hb⟩; have HB : Hid _ := hb; clear hb))
  go_ret
  exact ⟨rfl, HB.out⟩

theorem isChange_any (n : Int) (w : World) :
    Calls Tryz.prog 97 #[.int .i64 n] w fun e w' => e = .returned (.bool (okC n)) ∧ w' = w := by
  by_cases h1 : n = 1
  · subst h1
    go_enter Tryz.func97, Tryz.ntmps97
    go_wp2
    go_ret
    exact ⟨rfl, rfl⟩
  by_cases h2 : n = 2
  · subst h2
    go_enter Tryz.func97, Tryz.ntmps97
    go_wp2
    go_ret
    exact ⟨rfl, rfl⟩
  by_cases h3 : n = 3
  · subst h3
    go_enter Tryz.func97, Tryz.ntmps97
    go_wp2
    go_ret
    exact ⟨rfl, rfl⟩
  · have e : okC n = false := by simp [okC]; omega
    rw [e]
    have e1 : (n == 1) = false := by simpa using h1
    have e2 : (n == 2) = false := by simpa using h2
    have e3 : (n == 3) = false := by simpa using h3
    go_enter Tryz.func97, Tryz.ntmps97
    go_wp2
    go_ret
    exact ⟨rfl, rfl⟩

theorem isChild_any (up low : ByteArray) (w : World) (hg : Ground w) :
    Calls Tryz.prog 98 #[.string up, .string low] w fun e w' => e = .returned (.bool (childB up low)) ∧ Below w.heap.size w w' := by
  have HG : Hid (Ground w) := hg
  clear hg
  obtain ⟨code, xs, hp⟩ : ∃ code xs, parse low = (code, xs) := ⟨_, _, rfl⟩
  by_cases hc : code = 0
  · subst hc
    by_cases hx : xs = []
    · subst hx
      have HP : Hid _ := parent_root hp
      have e : childB up low = false := by simp [childB, hp]
      rw [e]
      clear hp e
      go_enter Tryz.func98, Tryz.ntmps98
      go_wp2_with (first | (go_at_call 39; refine (HP.out _ HG.out).mono ?_; rintro e w1 ⟨rfl, hb⟩; have HB : Hid _ := hb; clear hb))
      go_ret
      exact ⟨rfl, HB.out⟩
    · obtain ⟨k, hk⟩ : ∃ k, xs.length = k + 1 := ⟨xs.length - 1, by cases xs with | nil => exact absurd rfl hx | cons y ys => simp⟩
      obtain ⟨pb, hpb⟩ : ∃ pb, placeB (xs.take k) = pb := ⟨_, rfl⟩
      have HP : Hid (∀ w, Ground w → Calls Tryz.prog 39 #[.string low] w fun e w' => e = .returned (.tuple #[.string pb, .int .i64 0]) ∧ Below w.heap.size w w') := fun w hg => by
        rw [← hpb]
        exact parent_some hp k hk w hg
      have e : childB up low = (pb.toList == up.toList) := by
        cases xs with
        | nil => exact absurd rfl hx
        | cons y ys =>
          have hk' : (y :: ys).length - 1 = k := by omega
          simp only [childB, hp, hk', hpb]
          simp
      rw [e]
      clear hp e hpb hk hx
      go_enter Tryz.func98, Tryz.ntmps98
      go_wp2_with (first | (go_at_call 39; refine (HP.out _ HG.out).mono ?_; rintro e w1 ⟨rfl, hb⟩; have HB : Hid _ := hb; clear hb))
      go_ret
      exact ⟨rfl, HB.out⟩
  · have hx : xs = [] := parse_code hp hc
    subst hx
    have HP : Hid _ := parent_err hp hc
    have e : childB up low = false := by simp [childB, hp]
    rw [e]
    have hc' : (code == 0) = false := by simpa using hc
    clear hp e
    go_enter Tryz.func98, Tryz.ntmps98
    go_wp2_with (first | (go_at_call 39; refine (HP.out _ HG.out).mono ?_; rintro e w1 ⟨rfl, hb⟩; have HB : Hid _ := hb; clear hb))
    go_ret
    exact ⟨rfl, HB.out⟩

theorem place_size {xs : List ByteArray} (hN : xs.length ≤ 6) (h : xs.all isNm = true) : (placeB xs).size ≤ 102 := by
  unfold placeB
  split
  · decide
  · rw [size_mk]
    have := flat_len xs h
    omega

theorem isBelow_any {up low : ByteArray} {ws cs : List ByteArray} (hu : parse up = (0, ws)) (hl : parse low = (0, cs)) (w : World) :
    Calls Tryz.prog 99 #[.string up, .string low] w fun e w' => e = .returned (.bool (belB up low)) ∧ w' = w := by
  have e0 : belB up low = decide (Bel ws cs) := by simp [belB, hu, hl]
  have hw := parse_len hu
  have hc := parse_len hl
  have bu := parse_back hu
  have bl := parse_back hl
  rw [e0]
  cases ws with
  | nil =>
    have hr : up = ⟨#[47]⟩ := bu.symm
    subst hr
    cases cs with
    | nil =>
      have hr2 : low = ⟨#[47]⟩ := bl.symm
      subst hr2
      have e : decide (Bel ([] : List ByteArray) []) = false := by decide
      rw [e]
      clear hu hl e0 hw hc bu bl e
      go_enter Tryz.func99, Tryz.ntmps99
      go_wp2
      go_ret
      exact ⟨rfl, rfl⟩
    | cons c cs =>
      have e : decide (Bel ([] : List ByteArray) (c :: cs)) = true := by simp [Bel]
      rw [e]
      have hne : (low.toList == [47]) = false := by
        rw [beq_eq_false_iff_ne, ByteArray.toList_eq]
        intro h
        rw [parse_root h] at hl
        cases hl
      have hne' : (low.toList != [47]) = true := by simp [bne, hne]
      clear hu hl e0 hw hc bu bl e
      go_enter Tryz.func99, Tryz.ntmps99
      go_wp2
      go_ret
      exact ⟨rfl, rfl⟩
  | cons u ws =>
    have hne : (up.toList == [47]) = false := by
      rw [beq_eq_false_iff_ne, ByteArray.toList_eq]
      intro h
      rw [parse_root h] at hu
      cases hu
    have hsz : up.size ≤ 102 := by rw [← bu]; exact place_size hw.1 hw.2
    have hd : up.data.toList = flatN (u :: ws) := by rw [← bu, placeB, if_neg (by simp), data_mk]
    have h47 : (⟨#[47]⟩ : ByteArray).size = 1 := rfl
    have hadd : (Op.stringOp .add up ⟨#[47]⟩).run Tryz.prog w = .ok (.string (mk (flatN (u :: ws) ++ [47]))) w := by
      rw [run_string_add_sum w _ _ (by rw [h47]; omega)]
      have : up ++ ⟨#[47]⟩ = mk (flatN (u :: ws) ++ [47]) := by
        conv => lhs; rw [← mk_data up, hd]
        exact ByteArray.mk_append_mk _ [47]
      rw [this]
    have hpre : Lib.hasPrefix low.data.toList (flatN (u :: ws) ++ [47]) = decide (Bel (u :: ws) cs) := by
      unfold Lib.hasPrefix
      rw [Bool.eq_iff_iff, List.isPrefixOf_iff_prefix, decide_eq_true_eq]
      cases cs with
      | nil =>
        have hr2 : low = ⟨#[47]⟩ := bl.symm
        subst hr2
        constructor
        · rintro ⟨t, ht⟩
          have hlen := congrArg List.length ht
          have h1 : 1 ≤ (flatN (u :: ws)).length := by simp [flatN]
          simp at hlen
          omega
        · rintro ⟨h, _⟩
          simp at h
      | cons c r =>
        have hdl : low.data.toList = flatN (c :: r) := by rw [← bl, placeB, if_neg (by simp), data_mk]
        rw [hdl]
        exact pre_bel _ _ hw.2 hc.2
    have HH : Hid (∀ w, Calls Tryz.prog 60 #[.string low, .string (mk (flatN (u :: ws) ++ [47]))] w fun e w' => e = .returned (.bool (decide (Bel (u :: ws) cs))) ∧ w' = w) := fun w => by
      have := Tryz.strings_HasPrefix low (mk (flatN (u :: ws) ++ [47])) w
      rw [data_mk, hpre] at this
      exact this
    clear hu hl e0 hw hc bu bl hsz hd h47 hpre
    generalize mk (flatN (u :: ws) ++ [47]) = pre at *
    generalize decide (Bel (u :: ws) cs) = res at *
    go_enter Tryz.func99, Tryz.ntmps99
    go_wp2_with (first | (go_at_call 60; refine (HH.out _).mono ?_; rintro e w1 ⟨rfl, rfl⟩))
    go_ret
    exact ⟨rfl, rfl⟩

theorem covers_watched {watched : ByteArray} (kind change : Int) (changed : ByteArray) (hw : isP watched = false) (w : World) (hg : Ground w) :
    Calls Tryz.prog 75 #[.int .i64 kind, .string watched, .int .i64 change, .string changed] w fun e w' => e = .returned (.bool (covers kind watched change changed)) ∧ Below w.heap.size w w' := by
  have e : covers kind watched change changed = false := by simp [covers, hw]
  rw [e]
  have HG : Hid (Ground w) := hg
  have HP : Hid _ := isPlace_any watched
  have HW : Hid _ := hw
  clear hg hw e
  go_enter Tryz.func75, Tryz.ntmps75
  go_wp2_with fail
  refine (HP.out _ HG.out).mono ?_
  rw [HW.out]
  rintro e w1 ⟨rfl, hb⟩
  have HB : Hid _ := hb
  clear hb
  go_wp2
  go_ret
  exact ⟨rfl, HB.out⟩
theorem covers_change {watched : ByteArray} (kind change : Int) (changed : ByteArray) (hw : isP watched = true) (hc : okC change = false) (w : World) (hg : Ground w) :
    Calls Tryz.prog 75 #[.int .i64 kind, .string watched, .int .i64 change, .string changed] w fun e w' => e = .returned (.bool (covers kind watched change changed)) ∧ Below w.heap.size w w' := by
  have e : covers kind watched change changed = false := by simp [covers, hc]
  rw [e]
  have HG : Hid (Ground w) := hg
  have HP : Hid _ := isPlace_any watched
  have HW : Hid _ := hw
  have HC : Hid _ := hc
  clear hg hw hc e
  go_enter Tryz.func75, Tryz.ntmps75
  go_wp2_with fail
  refine (HP.out _ HG.out).mono ?_
  rw [HW.out]
  rintro e w1 ⟨rfl, hb⟩
  have HB : Hid _ := hb
  clear hb
  go_wp2_with fail
  refine (isChange_any change w1).mono ?_
  rw [HC.out]
  rintro e w2 ⟨rfl, rfl⟩
  go_wp2
  go_ret
  exact ⟨rfl, HB.out⟩
theorem covers_changed {watched : ByteArray} (kind change : Int) (changed : ByteArray) (hw : isP watched = true) (hc : okC change = true) (hd : isP changed = false) (w : World) (hg : Ground w) :
    Calls Tryz.prog 75 #[.int .i64 kind, .string watched, .int .i64 change, .string changed] w fun e w' => e = .returned (.bool (covers kind watched change changed)) ∧ Below w.heap.size w w' := by
  have e : covers kind watched change changed = false := by simp [covers, hd]
  rw [e]
  have HG : Hid (Ground w) := hg
  have HP : Hid _ := isPlace_any watched
  have HP2 : Hid _ := isPlace_any changed
  have HW : Hid _ := hw
  have HC : Hid _ := hc
  have HD : Hid _ := hd
  clear hg hw hc hd e
  go_enter Tryz.func75, Tryz.ntmps75
  go_wp2_with fail
  refine (HP.out _ HG.out).mono ?_
  rw [HW.out]
  rintro e w1 ⟨rfl, hb⟩
  have HB : Hid _ := hb
  clear hb
  go_wp2_with fail
  refine (isChange_any change w1).mono ?_
  rw [HC.out]
  rintro e w2 ⟨rfl, rfl⟩
  go_wp2_with fail
  refine (HP2.out _ (HG.out.below HB.out)).mono ?_
  rw [HD.out]
  rintro e w2 ⟨rfl, hb2⟩
  have HB2 : Hid _ := trans2 HB.out hb2
  clear hb2
  go_wp2
  go_ret
  exact ⟨rfl, HB2.out⟩

set_option maxHeartbeats 1600000 in
theorem covers_good {watched changed : ByteArray} {ws cs : List ByteArray} (kind change : Int) (hu : parse watched = (0, ws)) (hl : parse changed = (0, cs)) (hc : okC change = true) (w : World) (hg : Ground w) :
    Calls Tryz.prog 75 #[.int .i64 kind, .string watched, .int .i64 change, .string changed] w fun e w' => e = .returned (.bool (covers kind watched change changed)) ∧ Below w.heap.size w w' := by
  have hw : isP watched = true := by simp [isP, hu]
  have hd : isP changed = true := by simp [isP, hl]
  have e0 : covers kind watched change changed = cov kind change (eqB changed watched) (childB watched changed) (belB watched changed) := by simp [covers, hw, hd, hc]
  rw [e0]
  have HG : Hid (Ground w) := hg
  have HP : Hid _ := isPlace_any watched
  have HP2 : Hid _ := isPlace_any changed
  have HK : Hid _ := isChild_any watched changed
  have HB0 : Hid _ := isBelow_any hu hl
  have HW : Hid _ := hw
  have HC : Hid _ := hc
  have HD : Hid _ := hd
  obtain ⟨ch, hch⟩ : ∃ ch, childB watched changed = ch := ⟨_, rfl⟩
  obtain ⟨be, hbe⟩ : ∃ be, belB watched changed = be := ⟨_, rfl⟩
  rw [hch] at HK
  rw [hbe] at HB0
  rw [hch, hbe]
  clear hg hw hd hc e0 hch hbe hu hl
  have eqv : eqB changed watched = (changed.toList == watched.toList) := rfl
  rw [eqv]
  clear eqv
  go_enter Tryz.func75, Tryz.ntmps75
  go_wp2_with fail
  refine (HP.out _ HG.out).mono ?_
  rw [HW.out]
  rintro e w1 ⟨rfl, hb⟩
  have HB : Hid _ := hb
  clear hb
  go_wp2_with fail
  refine (isChange_any change w1).mono ?_
  rw [HC.out]
  rintro e w2 ⟨rfl, rfl⟩
  go_wp2_with fail
  refine (HP2.out _ (HG.out.below HB.out)).mono ?_
  rw [HD.out]
  rintro e w3 ⟨rfl, hb2⟩
  have HB2 : Hid _ := trans2 HB.out hb2
  clear hb2
  by_cases k1 : kind = 1
  · subst k1
    go_wp2
    go_ret
    exact ⟨rfl, HB2.out⟩
  have k1' : (kind == 1) = false := by simpa using k1
  by_cases k2 : kind = 2
  · subst k2
    by_cases c2 : change = 2
    · subst c2
      go_wp2
      go_ret
      exact ⟨rfl, HB2.out⟩
    have c2' : (change != 2) = true := by simpa using c2
    cases heq : (changed.toList == watched.toList)
    · go_wp2_with (first | (go_at_call 98; refine (HK.out _ (HG.out.below HB2.out)).mono ?_; rintro e w4 ⟨rfl, hb4⟩; have HB4 : Hid _ := hb4; clear hb4))
      go_ret
      exact ⟨by rw [heq]; simp [cov, c2], trans2 HB2.out HB4.out⟩
    · go_wp2
      go_ret
      exact ⟨by rw [heq]; simp [cov, c2], HB2.out⟩
  have k2' : (kind == 2) = false := by simpa using k2
  by_cases k3 : kind = 3
  · subst k3
    cases heq : (changed.toList == watched.toList)
    · go_wp2_with (first | (go_at_call 99; refine (HB0.out _).mono ?_; rintro e w4 ⟨rfl, rfl⟩))
      go_ret
      exact ⟨by rw [heq]; simp [cov], HB2.out⟩
    · go_wp2
      go_ret
      exact ⟨by rw [heq]; simp [cov], HB2.out⟩
  have k3' : (kind == 3) = false := by simpa using k3
  go_wp2
  go_ret
  exact ⟨by simp [cov, k1, k2, k3], HB2.out⟩

theorem covers_any (kind change : Int) (watched changed : ByteArray) (w : World) (hg : Ground w) :
    Calls Tryz.prog 75 #[.int .i64 kind, .string watched, .int .i64 change, .string changed] w fun e w' => e = .returned (.bool (covers kind watched change changed)) ∧ Below w.heap.size w w' := by
  cases hw : isP watched
  · exact covers_watched kind change changed hw w hg
  cases hc : okC change
  · exact covers_change kind change changed hw hc w hg
  cases hd : isP changed
  · exact covers_changed kind change changed hw hc hd w hg
  obtain ⟨c1, ws, h1⟩ : ∃ c1 ws, parse watched = (c1, ws) := ⟨_, _, rfl⟩
  obtain ⟨c2, cs, h2⟩ : ∃ c2 cs, parse changed = (c2, cs) := ⟨_, _, rfl⟩
  have e1 : c1 = 0 := by simpa [isP, h1] using hw
  have e2 : c2 = 0 := by simpa [isP, h2] using hd
  subst e1 e2
  exact covers_good kind change h1 h2 hc w hg
end Go.Proofs.YtliafokjdngejaaGreatDoor
namespace Go.Proofs.YtliafokjdngejaaGreatDoor
open Go.RowKit Go.Maps
set_option linter.unusedVariables false
set_option linter.unusedSimpArgs false

theorem Tryz.infoT : (Tryz.prog.info? 9).map (fun i => (i.zero, i.size, i.bytes)) = some (some (.string ⟨#[]⟩), 1, 16) := by kernel_rfl
abbrev ordV : Value := .func (.func 40) #[] #[]
/-- What a sort of places does. -/
def SortsTo : Prop := ∀ (base g cap : Nat) (ss : List (List UInt8)) (w : World), w.ownsRow base 9 1 (.slice (some ⟨g, 0, none⟩) ss.length cap) ss.length (ss.map encStr) → (∀ l ∈ ss, l.length ≤ 1000) → ss.length ≤ 1000000 →
  Calls Tryz.prog 76 #[.slice (some ⟨g, 0, none⟩) ss.length cap, ordV] w fun e w' => e = .returned (.tuple #[]) ∧ ∃ ts : List (List UInt8), ts.Perm ss ∧ ts.Pairwise (fun x y => ordL x y ≠ 1) ∧ w'.ownsRow base 9 1 (.slice (some ⟨g, 0, none⟩) ts.length cap) ts.length (ts.map encStr) ∧ w.grownBy w' (some g)
def SortsNil : Prop := ∀ w : World, Calls Tryz.prog 76 #[.slice none 0 0, ordV] w fun e w' => e = .returned (.tuple #[]) ∧ Below w.heap.size w w'
theorem grown_of_below {w w' : World} (h : Below w.heap.size w w') (row : Option Nat) : w.grownBy w' row := ⟨h.os, h.tape, h.output, h.size, fun k hk _ => h.block k hk⟩
def wF (kind : Int) (at' : ByteArray) (l : List UInt8) : Bool := covers kind at' 1 ⟨l.toArray⟩
set_option maxHeartbeats 4000000 in
set_option maxRecDepth 100000 in
theorem watched_any (hS : SortsTo) (hN : SortsNil) (b n : Nat) (D : DataW Value) (kind : Int) (at' : ByteArray) (w : World) (hg : Ground w) (hm : MapAt w b n D) (hk : ∀ l ∈ strKeys D, l.length ≤ 1000) (hsz : Maps.size D ≤ 1000000) :
    Calls Tryz.prog 47 #[.map (some b), .int .i64 kind, .string at'] w fun e w' => ∃ (a : Option Addr) (c : Nat) (ts : List (List UInt8)), e = .returned (.slice a ts.length c) ∧ ts.Perm ((strKeys D).filter (wF kind at')) ∧ ts.Pairwise (fun x y => ordL x y ≠ 1) ∧ w'.ownsRow w.heap.size 9 1 (.slice a ts.length c) ts.length (ts.map encStr) ∧ Below w.heap.size w w' := by
  obtain ⟨i0, hi, hz0, hz1, hz2⟩ := info_parts Tryz.infoT
  have hbl := hm.lt
  have HG : Hid (Ground w) := hg
  have HM : Hid (MapAt w b n D) := hm
  have HK : Hid (∀ l ∈ strKeys D, l.length ≤ 1000) := hk
  clear hg hk
  go_enter Tryz.func47, Tryz.ntmps47
  go_wp2_with (first
    | (at_range; go_loud (refine wpList_range_own _ rfl _ 73 rfl 9 54 keyed Tryz.underlying73 raw b n D rfl hm ?_; intro w0 hrg0 hg0 hs0))
    | fail)
  go_frame
  go_loopw [7] (fun v wr => ∃ (left : Lit → Bool) (cnt : Nat) (all : List (List UInt8)), wr.ranges Tryz.prog 9 raw b w.heap.size n D left cnt ∧ all.length + cnt ≤ Maps.size D ∧ Hid (wr.ownsRow w.heap.size 9 1 v (all.filter (wF kind at')).length ((all.filter (wF kind at')).map encStr)) ∧ Collected D left all ∧ Hid (Below w.heap.size w wr)) (fun _ wr => wr.rangeLeft b w.heap.size)
  case atStart => exact ⟨_, _, [], hrg0, by simp, World.ownsRow_nil _ _ _ _, Collected.start D, (Below.refl _ _).grown hg0 (Nat.le_refl _) (fun j hj => by cases hj)⟩
  case round =>
    obtain ⟨left, cnt, all, hrg, hcs, HR, hC, HB⟩ := hrel
    go_wp2_with (first
      | (at_next; go_loud (refine wpList_next_ranges _ rfl _ rfl 9 keyed raw encStr id (fun key kl hk => by obtain ⟨x, hx, _⟩ := Maps.keyOf_str Tryz.underlying9 hk; exact ⟨x, hx⟩) (fun v y hv => ⟨v, rfl⟩) b w.heap.size n _ _ _ rfl hrg ?_ ?_))
      | fail)
    · intro hc0 hl0
      have HP : Hid (all.Perm (strKeys D)) := hC.perm HM.out keyed Tryz.underlying9 hl0
      have HPF : Hid ((all.filter (wF kind at')).Perm ((strKeys D).filter (wF kind at'))) := HP.out.filter _
      have HSS : Hid (∀ l ∈ all.filter (wF kind at'), l.length ≤ 1000) := fun l hl => HK.out l (HP.out.mem_iff.1 (List.mem_filter.1 hl).1)
      have HLn : Hid ((all.filter (wF kind at')).length ≤ 1000000) := Nat.le_trans (List.length_filter_le _ _) (by omega)
      clear hrg hC hc0 hl0 hcs
      obtain ⟨ss, hss⟩ : ∃ ss, all.filter (wF kind at') = ss := ⟨_, rfl⟩
      rw [hss] at HR HPF HSS HLn
      clear hss
      rcases HR.out.2 with ⟨hv, hl⟩ | ⟨g, cap, cur, hv, hbase, hb, h1, h2, h3, h4⟩
      · have hs0 : ss = [] := List.eq_nil_of_length_eq_zero hl
        subst hs0
        subst hv
        go_wp2_with fail
        refine (hN _).mono ?_
        rintro e w5 ⟨rfl, hb5⟩
        have HB5 : Hid (Below w.heap.size w w5) := trans2 HB.out hb5
        clear hb5
        go_wp2_with fail
        go_ret
        exact ⟨none, 0, [], rfl, HPF.out, List.Pairwise.nil, World.ownsRow_nil _ _ _ _, HB5.out⟩
      · subst hv
        have HCON : Hid _ := hS w.heap.size g cap ss wr HR.out HSS.out HLn.out
        have HBa : Hid (w.heap.size ≤ g) := hbase
        clear hb h1 h2 h3 h4 hbase
        go_wp2_with fail
        refine Calls.mono HCON.out ?_
        rintro e w5 ⟨rfl, ts, hp5, hs5, ho5, hg5⟩
        have HB5 : Hid (Below w.heap.size w w5) := HB.out.grown hg5 HB.out.size (fun j hj => by cases hj; exact HBa.out)
        have HO5 : Hid _ := ho5
        have HP5 : Hid _ := hp5
        have HS5 : Hid _ := hs5
        clear hp5 hs5 ho5 hg5
        go_wp2_with fail
        go_ret
        exact ⟨_, cap, ts, by rw [HP5.out.length_eq]; rfl, HP5.out.trans HPF.out, HS5.out, HO5.out, HB5.out⟩
    · intro x c kl yd yp w2 cnt2 hkey hlk hv hat hrg2 hlt hg2 hs2 hen
      obtain ⟨x', ex, rfl, _⟩ := Maps.keyOf_str Tryz.underlying9 hkey
      obtain rfl : x = x' := encStr_inj ex
      have HR2 : Hid (w2.ownsRow w.heap.size 9 1 u7 (all.filter (wF kind at')).length ((all.filter (wF kind at')).map encStr)) := HR.out.kept hg2 (Or.inr (row_ne_iter HR.out hrg).symm)
      have HB2 : Hid (Below w.heap.size w w2) := HB.out.grown hg2 HB.out.size (fun j hj => by cases hj; exact Nat.le_refl _)
      have HCV : Hid _ := covers_any kind 1 at' ⟨x.toArray⟩ w2 (HG.out.below HB2.out)
      clear hs2
      obtain ⟨f, hf⟩ : ∃ f, wF kind at' x = f := ⟨_, rfl⟩
      have hf' : covers kind at' 1 ⟨x.toArray⟩ = f := hf
      rw [hf'] at HCV
      cases f with
      | false =>
        have HF : Hid ((all ++ [x]).filter (wF kind at') = all.filter (wF kind at')) := by show _ = _; rw [List.filter_append]; simp [hf]
        go_wp2_with fail
        refine Calls.mono HCV.out ?_
        rintro e w3 ⟨rfl, hb3⟩
        have hrg3 := hrg2.kept (grown_of_below hb3 none) (by simp) (by simp)
        have HR3 : Hid (w3.ownsRow w.heap.size 9 1 u7 (all.filter (wF kind at')).length ((all.filter (wF kind at')).map encStr)) := World.ownsRow.kept HR2.out (grown_of_below hb3 none) (by cases u7.ownBlock <;> simp)
        have HB3 : Hid (Below w.heap.size w w3) := trans2 HB2.out hb3
        clear hb3
        go_wp2_with fail
        go_roundw
        case rel => exact ⟨_, cnt2, all ++ [x], hrg3, by simp; omega, by show World.ownsRow _ _ _ _ _ _ _; rw [HF.out]; exact HR3.out, hC.step hlk hat, HB3⟩
        case measure => rw [hrg3.left_eq, hrg.left_eq]; exact hlt
      | true =>
        have HF : Hid ((all ++ [x]).filter (wF kind at') = all.filter (wF kind at') ++ [x]) := by show _ = _; rw [List.filter_append]; simp [hf]
        have HFL : Hid ((all.filter (wF kind at')).length ≤ 1000000) := Nat.le_trans (List.length_filter_le _ _) (by omega)
        go_wp2_with fail
        refine Calls.mono HCV.out ?_
        rintro e w3 ⟨rfl, hb3⟩
        have hrg3 := hrg2.kept (grown_of_below hb3 none) (by simp) (by simp)
        have HR3 : Hid (w3.ownsRow w.heap.size 9 1 u7 (all.filter (wF kind at')).length ((all.filter (wF kind at')).map encStr)) := World.ownsRow.kept HR2.out (grown_of_below hb3 none) (by cases u7.ownBlock <;> simp)
        have HB3 : Hid (Below w.heap.size w w3) := trans2 HB2.out hb3
        clear hb3
        go_wp2_with (first
          | (at_builtin; refine wpList_append_own _ rfl _ _ 38 rfl w.heap.size 9 i0 (.string ⟨#[]⟩) 1 16 Tryz.underlying38 hi hz0 hz1 hz2 rfl (by decide) _ _ _ rfl (World.ownsRow.alloc HR3.out _) ⟨w3.heap.size, 0, none⟩ 1 1 [encStr x] rfl rfl (cell_one_new _ _ _) (by simp [Value.oneCell', encStr]) (by have := HFL.out; unfold maxLen; omega) (by have := HFL.out; omega) (by have := HB3.out.size; simp; omega) ?_; intro v' w4 hown4 hg4 hnil4; go_frame)
          | fail)
        have hrg4 := (hrg3.alloc _).kept hg4 (row_ne_low HR3.out hbl) (row_ne_iter HR3.out hrg3)
        go_roundw
        case rel =>
          refine ⟨_, cnt2, all ++ [x], hrg4, by simp; omega, ?_, hC.step hlk hat, ?_⟩
          · show World.ownsRow _ _ _ _ _ _ _
            rw [HF.out]
            simpa using hown4
          · exact (HB3.out.alloc HB3.out.size _).grown hg4 (by have := HB3.out.size; simp; omega) (fun j hj => (HR3.out.lt j hj).1)
        case measure => rw [hrg4.left_eq, hrg.left_eq]; exact hlt
end Go.Proofs.YtliafokjdngejaaGreatDoor
