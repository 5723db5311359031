/-
  PlaceKinds: the walk.
-/
import Derived.Test.YtblhenblibdjoabDoorCovers
namespace Go.Proofs.YtblhenblibdjoabDoor
open Go.RowKit

theorem in_any (s : ByteArray) (w : World) (hg : Ground w) :
    Calls Tryd.prog 15 #[.string s] w fun e w' => e = .returned (.bool (isP s)) ∧ Below w.heap.size w w' := by
  have HG : Hid (Ground w) := hg
  obtain ⟨p, hp⟩ : ∃ p, p = parse s := ⟨_, rfl⟩
  unfold isP
  have HP : Hid (∀ w, Ground w → Calls Tryd.prog 19 #[.string s] w fun e w' => ∃ a c, e = .returned (.tuple #[.slice a p.2.length c, .int .i64 p.1]) ∧ Below w.heap.size w w') := fun w hg => by
    refine (parse_any s w hg).mono ?_
    rintro e w' ⟨a, c, h1, h2, h3⟩
    rw [hp]
    exact ⟨a, c, h1, h3⟩
  rw [← hp]
  clear hg hp
  go_enter Tryd.func15, Tryd.ntmps15
  go_wp2_with (first | (go_at_call 19; refine (HP.out _ HG.out).mono ?_; rintro e w1 ⟨a, c, rfl, hb⟩; have HB : Hid _ := hb; clear hb) | (go_at_call 11; go_in))
  go_ret
  exact ⟨rfl, HB.out⟩

theorem eqB_iff {a b : ByteArray} : eqB a b = true ↔ a = b := by
  unfold eqB
  rw [beq_iff_eq, ByteArray.toList_eq, ByteArray.toList_eq]
  constructor
  · intro h
    rw [← mk_data a, ← mk_data b, h]
  · intro h
    rw [h]


/-- Is it so of one of 0 to k? -/
def smf (f : Nat → Bool) : Nat → Bool
  | 0 => f 0
  | k + 1 => smf f k || f (k + 1)
theorem smf_iff (f : Nat → Bool) : ∀ k, smf f k = true ↔ ∃ j, j ≤ k ∧ f j = true
  | 0 => ⟨fun h => ⟨0, Nat.le_refl _, h⟩, fun ⟨j, hj, h⟩ => by
    have : j = 0 := by omega
    subst this
    exact h⟩
  | k + 1 => by
    rw [smf, Bool.or_eq_true, smf_iff f k]
    constructor
    · rintro (⟨j, hj, h⟩ | h)
      · exact ⟨j, by omega, h⟩
      · exact ⟨k + 1, Nat.le_refl _, h⟩
    · rintro ⟨j, hj, h⟩
      by_cases e : j = k + 1
      · subst e; exact .inr h
      · exact .inl ⟨j, by omega, h⟩

/-- Is the place of all but the last j names watched? -/
def upB (watched : ByteArray) (cl : List ByteArray) (j : Nat) : Bool := (placeB (cl.take (cl.length - j))).toList == watched.toList

theorem some_covers {watched changed : ByteArray} {ws cl : List ByteArray} (hu : parse watched = (0, ws)) (hl : parse changed = (0, cl)) : smf (upB watched cl) cl.length = (eqB changed watched || decide (Bel ws cl)) := by
  have hc := parse_len hl
  rw [Bool.eq_iff_iff, smf_iff, Bool.or_eq_true, decide_eq_true_eq, eqB_iff]
  have inj : ∀ j, upB watched cl j = true ↔ ws = cl.take (cl.length - j) := by
    intro j
    show eqB _ _ = true ↔ _
    rw [eqB_iff]
    have hp := parse_place (xs := cl.take (cl.length - j)) (by rw [List.length_take]; omega) (all_take hc.2 _)
    constructor
    · intro h
      rw [h, hu] at hp
      cases hp
      rfl
    · intro h
      rw [← h]
      exact parse_back hu
  constructor
  · rintro ⟨j, hj, h⟩
    have hw := (inj j).1 h
    by_cases h0 : j = 0
    · left
      subst h0
      rw [Nat.sub_zero, List.take_length] at hw
      rw [← parse_back hu, ← parse_back hl, hw]
    · right
      have hwl : ws.length = cl.length - j := by rw [hw, List.length_take]; omega
      exact ⟨by omega, by rw [hwl, ← hw]⟩
  · rintro (h | ⟨h1, h2⟩)
    · refine ⟨0, Nat.zero_le _, (inj 0).2 ?_⟩
      rw [Nat.sub_zero, List.take_length]
      rw [← h, hl] at hu
      cases hu
      rfl
    · refine ⟨cl.length - ws.length, by omega, (inj _).2 ?_⟩
      rw [show cl.length - (cl.length - ws.length) = ws.length by omega, h2]

theorem kinds_out (watched changed : ByteArray) (change : Int) (h : isP watched = false ∨ (isP watched = true ∧ isP changed = false) ∨ (isP watched = true ∧ isP changed = true ∧ okC change = false)) (w : World) (hg : Ground w) :
    Calls Tryd.prog 5 #[.string watched, .int .i64 change, .string changed] w fun e w' => e = .returned (.bool true) ∧ Below w.heap.size w w' := by
  have HG : Hid (Ground w) := hg
  have HA : Hid _ := in_any watched
  have HB : Hid _ := in_any changed
  have hv : ∀ kind, covers kind watched change changed = false := by
    intro kind
    rcases h with h | ⟨h, h2⟩ | ⟨h, h2, h3⟩ <;> simp [covers, *]
  have HV : Hid (∀ kind w, Ground w → Calls Tryd.prog 16 #[.int .i64 kind, .string watched, .int .i64 change, .string changed] w fun e w' => e = .returned (.bool false) ∧ Below w.heap.size w w') := fun kind w hg => by
    have := covers_any kind change watched changed w hg
    rw [hv kind] at this
    exact this
  clear hg hv
  go_enter Tryd.func5, Tryd.ntmps5
  go_wp2_with fail
  refine (HA.out _ HG.out).mono ?_
  rcases h with h | ⟨h, h2⟩ | ⟨h, h2, h3⟩
  · rw [h]
    rintro e w1 ⟨rfl, hb1⟩
    have HBx : Hid _ := hb1
    clear hb1 h
    go_wp2_with fail
    refine (HV.out _ _ (HG.out.below HBx.out)).mono ?_
    rintro e v1 ⟨rfl, hc1⟩
    have HC1 : Hid _ := trans2 HBx.out hc1
    clear hc1
    go_wp2_with fail
    refine (HV.out _ _ (HG.out.below HC1.out)).mono ?_
    rintro e v2 ⟨rfl, hc2⟩
    have HC2 : Hid _ := trans2 HC1.out hc2
    clear hc2
    go_wp2_with fail
    refine (HV.out _ _ (HG.out.below HC2.out)).mono ?_
    rintro e v3 ⟨rfl, hc3⟩
    have HC3 : Hid _ := trans2 HC2.out hc3
    clear hc3
    go_wp2_with fail
    refine (known_any _ (HG.out.below HC3.out)).mono ?_
    rintro e v4 ⟨rfl, hc4⟩
    have HC4 : Hid _ := trans2 HC3.out hc4
    clear hc4
    go_wp2
    go_ret
    exact ⟨rfl, HC4.out⟩
  · rw [h]
    rintro e w1 ⟨rfl, hb1⟩
    have HB1 : Hid _ := hb1
    clear hb1 h
    go_wp2_with fail
    refine (HB.out _ (HG.out.below HB1.out)).mono ?_
    rw [h2]
    rintro e w2 ⟨rfl, hb2⟩
    have HBx : Hid _ := trans2 HB1.out hb2
    clear hb2 h2
    go_wp2_with fail
    refine (HV.out _ _ (HG.out.below HBx.out)).mono ?_
    rintro e v1 ⟨rfl, hc1⟩
    have HC1 : Hid _ := trans2 HBx.out hc1
    clear hc1
    go_wp2_with fail
    refine (HV.out _ _ (HG.out.below HC1.out)).mono ?_
    rintro e v2 ⟨rfl, hc2⟩
    have HC2 : Hid _ := trans2 HC1.out hc2
    clear hc2
    go_wp2_with fail
    refine (HV.out _ _ (HG.out.below HC2.out)).mono ?_
    rintro e v3 ⟨rfl, hc3⟩
    have HC3 : Hid _ := trans2 HC2.out hc3
    clear hc3
    go_wp2_with fail
    refine (known_any _ (HG.out.below HC3.out)).mono ?_
    rintro e v4 ⟨rfl, hc4⟩
    have HC4 : Hid _ := trans2 HC3.out hc4
    clear hc4
    go_wp2
    go_ret
    exact ⟨rfl, HC4.out⟩
  · rw [h]
    rintro e w1 ⟨rfl, hb1⟩
    have HB1 : Hid _ := hb1
    clear hb1 h
    go_wp2_with fail
    refine (HB.out _ (HG.out.below HB1.out)).mono ?_
    rw [h2]
    rintro e w2 ⟨rfl, hb2⟩
    have HBx : Hid _ := trans2 HB1.out hb2
    clear hb2 h2
    have hcc : change < 1 ∨ 3 < change := by
      simp only [okC, decide_eq_false_iff_not] at h3
      omega
    clear h3
    rcases hcc with h | h
    · skip
      go_wp2_with fail
      refine (HV.out _ _ (HG.out.below HBx.out)).mono ?_
      rintro e v1 ⟨rfl, hc1⟩
      have HC1 : Hid _ := trans2 HBx.out hc1
      clear hc1
      go_wp2_with fail
      refine (HV.out _ _ (HG.out.below HC1.out)).mono ?_
      rintro e v2 ⟨rfl, hc2⟩
      have HC2 : Hid _ := trans2 HC1.out hc2
      clear hc2
      go_wp2_with fail
      refine (HV.out _ _ (HG.out.below HC2.out)).mono ?_
      rintro e v3 ⟨rfl, hc3⟩
      have HC3 : Hid _ := trans2 HC2.out hc3
      clear hc3
      go_wp2_with fail
      refine (known_any _ (HG.out.below HC3.out)).mono ?_
      rintro e v4 ⟨rfl, hc4⟩
      have HC4 : Hid _ := trans2 HC3.out hc4
      clear hc4
      go_wp2
      go_ret
      exact ⟨rfl, HC4.out⟩
    · have h1 : ¬ change < 1 := by omega
      go_wp2_with fail
      refine (HV.out _ _ (HG.out.below HBx.out)).mono ?_
      rintro e v1 ⟨rfl, hc1⟩
      have HC1 : Hid _ := trans2 HBx.out hc1
      clear hc1
      go_wp2_with fail
      refine (HV.out _ _ (HG.out.below HC1.out)).mono ?_
      rintro e v2 ⟨rfl, hc2⟩
      have HC2 : Hid _ := trans2 HC1.out hc2
      clear hc2
      go_wp2_with fail
      refine (HV.out _ _ (HG.out.below HC2.out)).mono ?_
      rintro e v3 ⟨rfl, hc3⟩
      have HC3 : Hid _ := trans2 HC2.out hc3
      clear hc3
      go_wp2_with fail
      refine (known_any _ (HG.out.below HC3.out)).mono ?_
      rintro e v4 ⟨rfl, hc4⟩
      have HC4 : Hid _ := trans2 HC3.out hc4
      clear hc4
      go_wp2
      go_ret
      exact ⟨rfl, HC4.out⟩


theorem up_parent {cl : List ByteArray} (hN : cl.length ≤ 6) (hall : cl.all isNm = true) (k : Nat) (hk : k < cl.length) (w : World) (hg : Ground w) :
    Calls Tryd.prog 17 #[.string (placeB (cl.take (cl.length - k)))] w fun e w' => e = .returned (.tuple #[.string (placeB (cl.take (cl.length - (k + 1)))), .int .i64 0]) ∧ Below w.heap.size w w' := by
  have hp := parse_place (xs := cl.take (cl.length - k)) (by rw [List.length_take]; omega) (all_take hall _)
  have := parent_some hp (cl.length - (k + 1)) (by rw [List.length_take]; omega) w hg
  rw [List.take_take, show min (cl.length - (k + 1)) (cl.length - k) = cl.length - (k + 1) by omega] at this
  exact this
theorem up_root {cl : List ByteArray} (k : Nat) (hk : k = cl.length) (w : World) (hg : Ground w) :
    Calls Tryd.prog 17 #[.string (placeB (cl.take (cl.length - k)))] w fun e w' => e = .returned (.tuple #[.string ⟨#[]⟩, .int .i64 47]) ∧ Below w.heap.size w w' := by
  subst hk
  rw [Nat.sub_self, List.take_zero]
  exact parent_root rfl w hg

set_option maxHeartbeats 8000000 in
set_option maxRecDepth 100000 in
theorem kinds_good {watched changed : ByteArray} {ws cl : List ByteArray} (change : Int) (hu : parse watched = (0, ws)) (hl : parse changed = (0, cl)) (hc : okC change = true) (w : World) (hg : Ground w) :
    Calls Tryd.prog 5 #[.string watched, .int .i64 change, .string changed] w fun e w' => e = .returned (.bool true) ∧ Below w.heap.size w w' := by
  have HG : Hid (Ground w) := hg
  have hlen := parse_len hl
  have hpw : isP watched = true := by simp [isP, hu]
  have hpc : isP changed = true := by simp [isP, hl]
  have HA : Hid (∀ w, Ground w → Calls Tryd.prog 15 #[.string watched] w fun e w' => e = .returned (.bool true) ∧ Below w.heap.size w w') := fun w hg => by
    have := in_any watched w hg
    rw [hpw] at this
    exact this
  have HB : Hid (∀ w, Ground w → Calls Tryd.prog 15 #[.string changed] w fun e w' => e = .returned (.bool true) ∧ Below w.heap.size w w') := fun w hg => by
    have := in_any changed w hg
    rw [hpc] at this
    exact this
  obtain ⟨eq, heq⟩ : ∃ eq, (changed.toList == watched.toList) = eq := ⟨_, rfl⟩
  have heq2 : eqB changed watched = eq := heq
  obtain ⟨ch, hch⟩ : ∃ ch, childB watched changed = ch := ⟨_, rfl⟩
  obtain ⟨sv, hsv⟩ : ∃ sv, smf (upB watched cl) cl.length = sv := ⟨_, rfl⟩
  have hbe : (eq || decide (Bel ws cl)) = sv := by rw [← hsv, some_covers hu hl, heq2]
  have hbel : belB watched changed = decide (Bel ws cl) := by simp [belB, hu, hl]
  have HV1 : Hid (∀ w, Ground w → Calls Tryd.prog 16 #[.int .i64 1, .string watched, .int .i64 change, .string changed] w fun e w' => e = .returned (.bool eq) ∧ Below w.heap.size w w') := fun w hg => by
    have := covers_any 1 change watched changed w hg
    have e : covers 1 watched change changed = eq := by simp [covers, cov, hpw, hpc, hc, heq2]
    rw [e] at this
    exact this
  have HV3 : Hid (∀ w, Ground w → Calls Tryd.prog 16 #[.int .i64 3, .string watched, .int .i64 change, .string changed] w fun e w' => e = .returned (.bool sv) ∧ Below w.heap.size w w') := fun w hg => by
    have := covers_any 3 change watched changed w hg
    have e : covers 3 watched change changed = sv := by rw [← hbe]; simp [covers, cov, hpw, hpc, hc, heq2, hbel]
    rw [e] at this
    exact this
  have HV2 : Hid (∀ w, Ground w → Calls Tryd.prog 16 #[.int .i64 2, .string watched, .int .i64 change, .string changed] w fun e w' => e = .returned (.bool (decide (change ≠ 2) && (eq || ch))) ∧ Below w.heap.size w w') := fun w hg => by
    have := covers_any 2 change watched changed w hg
    have e : covers 2 watched change changed = (decide (change ≠ 2) && (eq || ch)) := by simp [covers, cov, hpw, hpc, hc, heq2, hch]
    rw [e] at this
    exact this
  obtain ⟨U, code, HPar, hkid⟩ : ∃ (U : ByteArray) (code : Int), Hid (∀ w, Ground w → Calls Tryd.prog 17 #[.string changed] w fun e w' => e = .returned (.tuple #[.string U, .int .i64 code]) ∧ Below w.heap.size w w') ∧
      (((code == 0) = false ∧ ch = false) ∨ (code = 0 ∧ (U.toList == watched.toList) = ch)) := by
    cases cl with
    | nil => exact ⟨_, _, parent_root hl, .inl ⟨rfl, by rw [← hch]; simp [childB, hl]⟩⟩
    | cons y ys =>
      refine ⟨_, _, parent_some hl ys.length rfl, .inr ⟨rfl, ?_⟩⟩
      rw [← hch]
      simp [childB, hl]
  have hcc : 1 ≤ change ∧ change ≤ 3 := by simpa [okC] using hc
  obtain ⟨hc1, hc2⟩ := hcc
  have d1 : decide (change < 1) = false := by simpa using hc1
  have d2 : decide (3 < change) = false := by simpa using hc2
  have HS : Hid _ := hsv
  have HN : Hid _ := hlen
  have h0 : Hid (placeB (cl.take (cl.length - 0)) = changed ∧ smf (upB watched cl) 0 = eq) := by
    refine ⟨by rw [Nat.sub_zero, List.take_length]; exact parse_back hl, ?_⟩
    show upB watched cl 0 = eq
    unfold upB
    rw [Nat.sub_zero, List.take_length, parse_back hl]
    exact heq
  clear hg hpw hpc heq2 hch hsv hbe hbel hc hu hl hlen
  go_enter Tryd.func5, Tryd.ntmps5
  go_wp2_with fail
  refine (HA.out _ HG.out).mono ?_
  rintro e w1 ⟨rfl, hb1⟩
  have HB1 : Hid _ := hb1
  clear hb1
  go_wp2_with fail
  refine (HB.out _ (HG.out.below HB1.out)).mono ?_
  rintro e w2 ⟨rfl, hb2⟩
  have HB2 : Hid _ := trans2 HB1.out hb2
  clear hb2
  go_wp2
  go_loopw [7, 8, 9] (fun u sm i wr => ∃ (k : Nat) (up : ByteArray) (sb : Bool), i = .int .i64 k ∧ u = .string up ∧ sm = .bool sb ∧ k ≤ cl.length ∧ Below w.heap.size w wr ∧ Hid (placeB (cl.take (cl.length - k)) = up ∧ smf (upB watched cl) k = sb)) (fun _ _ i _ => 6 - (intOf i).toNat)
  case atStart => exact ⟨0, changed, eq, rfl, rfl, rfl, Nat.zero_le _, HB2.out, h0⟩
  case round =>
    obtain ⟨k, up, sb, rfl, rfl, rfl, hk, hbx, HK⟩ := hrel
    have HBx : Hid _ := hbx
    clear hbx
    have hk6 : k ≤ 6 := by have := HN.out.1; omega
    by_cases hlt : k < 6
    · by_cases hkn : k < cl.length
      · obtain ⟨up', hup'⟩ : ∃ up', placeB (cl.take (cl.length - (k + 1))) = up' := ⟨_, rfl⟩
        have HPr : Hid (∀ w, Ground w → Calls Tryd.prog 17 #[.string up] w fun e w' => e = .returned (.tuple #[.string up', .int .i64 0]) ∧ Below w.heap.size w w') := fun w hg => by
          have := up_parent HN.out.1 HN.out.2 k hkn w hg
          rw [HK.out.1, hup'] at this
          exact this
        have HUP : Hid _ := hup'
        have HS2 : Hid (smf (upB watched cl) (k + 1) = (sb || (up'.toList == watched.toList))) := by
          show (smf (upB watched cl) k || upB watched cl (k + 1)) = _
          rw [HK.out.2]
          unfold upB
          rw [hup']
        clear hup'
        cases sb
        · go_wp2_with fail
          refine (HPr.out _ (HG.out.below HBx.out)).mono ?_
          rintro e w4 ⟨rfl, hb4⟩
          have HB4 : Hid _ := trans2 HBx.out hb4
          clear hb4
          go_wp2_with (first | (go_at_call 11; go_in))
          go_roundw
          case rel => exact ⟨k + 1, up', _, by go_num, rfl, rfl, by omega, HB4.out, HUP.out, by rw [HS2.out, Bool.false_or]⟩
          case measure => simp [intOf]; omega
        · go_wp2_with fail
          refine (HPr.out _ (HG.out.below HBx.out)).mono ?_
          rintro e w4 ⟨rfl, hb4⟩
          have HB4 : Hid _ := trans2 HBx.out hb4
          clear hb4
          go_wp2_with (first | (go_at_call 11; go_in))
          go_roundw
          case rel => exact ⟨k + 1, up', _, by go_num, rfl, rfl, by omega, HB4.out, HUP.out, by rw [HS2.out, Bool.true_or]⟩
          case measure => simp [intOf]; omega
      · obtain rfl : k = cl.length := by omega
        have hup : up = ⟨#[47]⟩ := by
          have := HK.out.1
          rw [Nat.sub_self, List.take_zero] at this
          exact this.symm
        have HPr : Hid (∀ w, Ground w → Calls Tryd.prog 17 #[.string up] w fun e w' => e = .returned (.tuple #[.string ⟨#[]⟩, .int .i64 47]) ∧ Below w.heap.size w w') := fun w hg => by
          have := up_root (cl := cl) cl.length rfl w hg
          rw [HK.out.1] at this
          exact this
        have hsb : sb = sv := by rw [← HS.out, HK.out.2]
        subst hsb
        subst hup
        clear HK
        go_wp2_with fail
        refine (HPr.out _ (HG.out.below HBx.out)).mono ?_
        rintro e w4 ⟨rfl, hb4⟩
        have HBy : Hid _ := trans2 HBx.out hb4
        clear hb4
        go_wp2_with (first | (go_at_call 11; go_in) | fail)
        refine (HPar.out _ (HG.out.below HBy.out)).mono ?_
        rintro e v1 ⟨rfl, hc1⟩
        have HC1 : Hid _ := trans2 HBy.out hc1
        clear hc1
        rcases hkid with ⟨h0, h1⟩ | ⟨h0, h1⟩
        · subst h1
          go_wp2_with (first | (go_at_call 11; go_in) | fail)
          refine (HV1.out _ (HG.out.below HC1.out)).mono ?_
          rintro e v2 ⟨rfl, hc2⟩
          have HC2 : Hid _ := trans2 HC1.out hc2
          clear hc2
          go_wp2_with fail
          refine (HV3.out _ (HG.out.below HC2.out)).mono ?_
          rintro e v3 ⟨rfl, hc3⟩
          have HC3 : Hid _ := trans2 HC2.out hc3
          clear hc3
          go_wp2_with fail
          refine (HV2.out _ (HG.out.below HC3.out)).mono ?_
          rintro e v4 ⟨rfl, hc4⟩
          have HC4 : Hid _ := trans2 HC3.out hc4
          clear hc4
          by_cases c2 : change = 2
          · subst c2
            cases eq
            · go_wp2_with (first | (go_at_call 12; refine (known_any _ (HG.out.below HC4.out)).mono ?_; rintro e v5 ⟨rfl, hc5⟩; have HC5 : Hid _ := trans2 HC4.out hc5; clear hc5))
              go_ret
              exact ⟨rfl, HC5.out⟩
            · go_wp2_with (first | (go_at_call 12; refine (known_any _ (HG.out.below HC4.out)).mono ?_; rintro e v5 ⟨rfl, hc5⟩; have HC5 : Hid _ := trans2 HC4.out hc5; clear hc5))
              go_ret
              exact ⟨rfl, HC5.out⟩
          · have c2' : (change != 2) = true := by simpa using c2
            have c2'' : decide (change ≠ 2) = true := by simpa using c2
            cases eq
            · go_wp2_with (first | (go_at_call 12; refine (known_any _ (HG.out.below HC4.out)).mono ?_; rintro e v5 ⟨rfl, hc5⟩; have HC5 : Hid _ := trans2 HC4.out hc5; clear hc5))
              go_ret
              exact ⟨rfl, HC5.out⟩
            · go_wp2_with (first | (go_at_call 12; refine (known_any _ (HG.out.below HC4.out)).mono ?_; rintro e v5 ⟨rfl, hc5⟩; have HC5 : Hid _ := trans2 HC4.out hc5; clear hc5))
              go_ret
              exact ⟨rfl, HC5.out⟩
        · subst h0
          cases ch
          · go_wp2_with (first | (go_at_call 11; go_in) | fail)
            refine (HV1.out _ (HG.out.below HC1.out)).mono ?_
            rintro e v2 ⟨rfl, hc2⟩
            have HC2 : Hid _ := trans2 HC1.out hc2
            clear hc2
            go_wp2_with fail
            refine (HV3.out _ (HG.out.below HC2.out)).mono ?_
            rintro e v3 ⟨rfl, hc3⟩
            have HC3 : Hid _ := trans2 HC2.out hc3
            clear hc3
            go_wp2_with fail
            refine (HV2.out _ (HG.out.below HC3.out)).mono ?_
            rintro e v4 ⟨rfl, hc4⟩
            have HC4 : Hid _ := trans2 HC3.out hc4
            clear hc4
            by_cases c2 : change = 2
            · subst c2
              cases eq
              · go_wp2_with (first | (go_at_call 12; refine (known_any _ (HG.out.below HC4.out)).mono ?_; rintro e v5 ⟨rfl, hc5⟩; have HC5 : Hid _ := trans2 HC4.out hc5; clear hc5))
                go_ret
                exact ⟨rfl, HC5.out⟩
              · go_wp2_with (first | (go_at_call 12; refine (known_any _ (HG.out.below HC4.out)).mono ?_; rintro e v5 ⟨rfl, hc5⟩; have HC5 : Hid _ := trans2 HC4.out hc5; clear hc5))
                go_ret
                exact ⟨rfl, HC5.out⟩
            · have c2' : (change != 2) = true := by simpa using c2
              have c2'' : decide (change ≠ 2) = true := by simpa using c2
              cases eq
              · go_wp2_with (first | (go_at_call 12; refine (known_any _ (HG.out.below HC4.out)).mono ?_; rintro e v5 ⟨rfl, hc5⟩; have HC5 : Hid _ := trans2 HC4.out hc5; clear hc5))
                go_ret
                exact ⟨rfl, HC5.out⟩
              · go_wp2_with (first | (go_at_call 12; refine (known_any _ (HG.out.below HC4.out)).mono ?_; rintro e v5 ⟨rfl, hc5⟩; have HC5 : Hid _ := trans2 HC4.out hc5; clear hc5))
                go_ret
                exact ⟨rfl, HC5.out⟩
          · go_wp2_with (first | (go_at_call 11; go_in) | fail)
            refine (HV1.out _ (HG.out.below HC1.out)).mono ?_
            rintro e v2 ⟨rfl, hc2⟩
            have HC2 : Hid _ := trans2 HC1.out hc2
            clear hc2
            go_wp2_with fail
            refine (HV3.out _ (HG.out.below HC2.out)).mono ?_
            rintro e v3 ⟨rfl, hc3⟩
            have HC3 : Hid _ := trans2 HC2.out hc3
            clear hc3
            go_wp2_with fail
            refine (HV2.out _ (HG.out.below HC3.out)).mono ?_
            rintro e v4 ⟨rfl, hc4⟩
            have HC4 : Hid _ := trans2 HC3.out hc4
            clear hc4
            by_cases c2 : change = 2
            · subst c2
              cases eq
              · go_wp2_with (first | (go_at_call 12; refine (known_any _ (HG.out.below HC4.out)).mono ?_; rintro e v5 ⟨rfl, hc5⟩; have HC5 : Hid _ := trans2 HC4.out hc5; clear hc5))
                go_ret
                exact ⟨rfl, HC5.out⟩
              · go_wp2_with (first | (go_at_call 12; refine (known_any _ (HG.out.below HC4.out)).mono ?_; rintro e v5 ⟨rfl, hc5⟩; have HC5 : Hid _ := trans2 HC4.out hc5; clear hc5))
                go_ret
                exact ⟨rfl, HC5.out⟩
            · have c2' : (change != 2) = true := by simpa using c2
              have c2'' : decide (change ≠ 2) = true := by simpa using c2
              cases eq
              · go_wp2_with (first | (go_at_call 12; refine (known_any _ (HG.out.below HC4.out)).mono ?_; rintro e v5 ⟨rfl, hc5⟩; have HC5 : Hid _ := trans2 HC4.out hc5; clear hc5))
                go_ret
                exact ⟨rfl, HC5.out⟩
              · go_wp2_with (first | (go_at_call 12; refine (known_any _ (HG.out.below HC4.out)).mono ?_; rintro e v5 ⟨rfl, hc5⟩; have HC5 : Hid _ := trans2 HC4.out hc5; clear hc5))
                go_ret
                exact ⟨rfl, HC5.out⟩
    · obtain rfl : k = cl.length := by have := HN.out.1; omega
      have hup : up = ⟨#[47]⟩ := by
        have := HK.out.1
        rw [Nat.sub_self, List.take_zero] at this
        exact this.symm
      have hsb : sb = sv := by rw [← HS.out, HK.out.2]
      subst hsb
      subst hup
      clear HK
      go_wp2_with fail
      refine (HPar.out _ (HG.out.below HBx.out)).mono ?_
      rintro e v1 ⟨rfl, hc1⟩
      have HC1 : Hid _ := trans2 HBx.out hc1
      clear hc1
      rcases hkid with ⟨h0, h1⟩ | ⟨h0, h1⟩
      · subst h1
        go_wp2_with (first | (go_at_call 11; go_in) | fail)
        refine (HV1.out _ (HG.out.below HC1.out)).mono ?_
        rintro e v2 ⟨rfl, hc2⟩
        have HC2 : Hid _ := trans2 HC1.out hc2
        clear hc2
        go_wp2_with fail
        refine (HV3.out _ (HG.out.below HC2.out)).mono ?_
        rintro e v3 ⟨rfl, hc3⟩
        have HC3 : Hid _ := trans2 HC2.out hc3
        clear hc3
        go_wp2_with fail
        refine (HV2.out _ (HG.out.below HC3.out)).mono ?_
        rintro e v4 ⟨rfl, hc4⟩
        have HC4 : Hid _ := trans2 HC3.out hc4
        clear hc4
        by_cases c2 : change = 2
        · subst c2
          cases eq
          · go_wp2_with (first | (go_at_call 12; refine (known_any _ (HG.out.below HC4.out)).mono ?_; rintro e v5 ⟨rfl, hc5⟩; have HC5 : Hid _ := trans2 HC4.out hc5; clear hc5))
            go_ret
            exact ⟨rfl, HC5.out⟩
          · go_wp2_with (first | (go_at_call 12; refine (known_any _ (HG.out.below HC4.out)).mono ?_; rintro e v5 ⟨rfl, hc5⟩; have HC5 : Hid _ := trans2 HC4.out hc5; clear hc5))
            go_ret
            exact ⟨rfl, HC5.out⟩
        · have c2' : (change != 2) = true := by simpa using c2
          have c2'' : decide (change ≠ 2) = true := by simpa using c2
          cases eq
          · go_wp2_with (first | (go_at_call 12; refine (known_any _ (HG.out.below HC4.out)).mono ?_; rintro e v5 ⟨rfl, hc5⟩; have HC5 : Hid _ := trans2 HC4.out hc5; clear hc5))
            go_ret
            exact ⟨rfl, HC5.out⟩
          · go_wp2_with (first | (go_at_call 12; refine (known_any _ (HG.out.below HC4.out)).mono ?_; rintro e v5 ⟨rfl, hc5⟩; have HC5 : Hid _ := trans2 HC4.out hc5; clear hc5))
            go_ret
            exact ⟨rfl, HC5.out⟩
      · subst h0
        cases ch
        · go_wp2_with (first | (go_at_call 11; go_in) | fail)
          refine (HV1.out _ (HG.out.below HC1.out)).mono ?_
          rintro e v2 ⟨rfl, hc2⟩
          have HC2 : Hid _ := trans2 HC1.out hc2
          clear hc2
          go_wp2_with fail
          refine (HV3.out _ (HG.out.below HC2.out)).mono ?_
          rintro e v3 ⟨rfl, hc3⟩
          have HC3 : Hid _ := trans2 HC2.out hc3
          clear hc3
          go_wp2_with fail
          refine (HV2.out _ (HG.out.below HC3.out)).mono ?_
          rintro e v4 ⟨rfl, hc4⟩
          have HC4 : Hid _ := trans2 HC3.out hc4
          clear hc4
          by_cases c2 : change = 2
          · subst c2
            cases eq
            · go_wp2_with (first | (go_at_call 12; refine (known_any _ (HG.out.below HC4.out)).mono ?_; rintro e v5 ⟨rfl, hc5⟩; have HC5 : Hid _ := trans2 HC4.out hc5; clear hc5))
              go_ret
              exact ⟨rfl, HC5.out⟩
            · go_wp2_with (first | (go_at_call 12; refine (known_any _ (HG.out.below HC4.out)).mono ?_; rintro e v5 ⟨rfl, hc5⟩; have HC5 : Hid _ := trans2 HC4.out hc5; clear hc5))
              go_ret
              exact ⟨rfl, HC5.out⟩
          · have c2' : (change != 2) = true := by simpa using c2
            have c2'' : decide (change ≠ 2) = true := by simpa using c2
            cases eq
            · go_wp2_with (first | (go_at_call 12; refine (known_any _ (HG.out.below HC4.out)).mono ?_; rintro e v5 ⟨rfl, hc5⟩; have HC5 : Hid _ := trans2 HC4.out hc5; clear hc5))
              go_ret
              exact ⟨rfl, HC5.out⟩
            · go_wp2_with (first | (go_at_call 12; refine (known_any _ (HG.out.below HC4.out)).mono ?_; rintro e v5 ⟨rfl, hc5⟩; have HC5 : Hid _ := trans2 HC4.out hc5; clear hc5))
              go_ret
              exact ⟨rfl, HC5.out⟩
        · go_wp2_with (first | (go_at_call 11; go_in) | fail)
          refine (HV1.out _ (HG.out.below HC1.out)).mono ?_
          rintro e v2 ⟨rfl, hc2⟩
          have HC2 : Hid _ := trans2 HC1.out hc2
          clear hc2
          go_wp2_with fail
          refine (HV3.out _ (HG.out.below HC2.out)).mono ?_
          rintro e v3 ⟨rfl, hc3⟩
          have HC3 : Hid _ := trans2 HC2.out hc3
          clear hc3
          go_wp2_with fail
          refine (HV2.out _ (HG.out.below HC3.out)).mono ?_
          rintro e v4 ⟨rfl, hc4⟩
          have HC4 : Hid _ := trans2 HC3.out hc4
          clear hc4
          by_cases c2 : change = 2
          · subst c2
            cases eq
            · go_wp2_with (first | (go_at_call 12; refine (known_any _ (HG.out.below HC4.out)).mono ?_; rintro e v5 ⟨rfl, hc5⟩; have HC5 : Hid _ := trans2 HC4.out hc5; clear hc5))
              go_ret
              exact ⟨rfl, HC5.out⟩
            · go_wp2_with (first | (go_at_call 12; refine (known_any _ (HG.out.below HC4.out)).mono ?_; rintro e v5 ⟨rfl, hc5⟩; have HC5 : Hid _ := trans2 HC4.out hc5; clear hc5))
              go_ret
              exact ⟨rfl, HC5.out⟩
          · have c2' : (change != 2) = true := by simpa using c2
            have c2'' : decide (change ≠ 2) = true := by simpa using c2
            cases eq
            · go_wp2_with (first | (go_at_call 12; refine (known_any _ (HG.out.below HC4.out)).mono ?_; rintro e v5 ⟨rfl, hc5⟩; have HC5 : Hid _ := trans2 HC4.out hc5; clear hc5))
              go_ret
              exact ⟨rfl, HC5.out⟩
            · go_wp2_with (first | (go_at_call 12; refine (known_any _ (HG.out.below HC4.out)).mono ?_; rintro e v5 ⟨rfl, hc5⟩; have HC5 : Hid _ := trans2 HC4.out hc5; clear hc5))
              go_ret
              exact ⟨rfl, HC5.out⟩

theorem kinds_walk (watched changed : ByteArray) (change : Int) (w : World) (hg : Ground w) :
    Calls Tryd.prog 5 #[.string watched, .int .i64 change, .string changed] w fun e w' => e = .returned (.bool true) ∧ Below w.heap.size w w' := by
  cases ha : isP watched
  · exact kinds_out watched changed change (.inl ha) w hg
  cases hb : isP changed
  · exact kinds_out watched changed change (.inr (.inl ⟨ha, hb⟩)) w hg
  cases hc : okC change
  · exact kinds_out watched changed change (.inr (.inr ⟨ha, hb, hc⟩)) w hg
  obtain ⟨c1, ws, h1⟩ : ∃ c1 xs, parse watched = (c1, xs) := ⟨_, _, rfl⟩
  obtain ⟨c2, cl, h2⟩ : ∃ c1 xs, parse changed = (c1, xs) := ⟨_, _, rfl⟩
  have e1 : c1 = 0 := by simpa [isP, h1] using ha
  have e2 : c2 = 0 := by simpa [isP, h2] using hb
  subst e1 e2
  exact kinds_good change h1 h2 hc w hg
end Go.Proofs.YtblhenblibdjoabDoor
