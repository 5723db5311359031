/-
  heraldref1.Join by a contract.
-/
import Derived.Test.YtblhenblibdjoacDoorJoin
import Derived.Test.YtblhenblibdjoacDoorRefOf
namespace Go.Proofs.YtblhenblibdjoacDoor
open Go.RowKit

theorem refJoin_err {base : ByteArray} {code : Int} (hp : parse base = (code, [])) (hc : code ≠ 0) (a : Option Addr) (c : Nat) (ns : List ByteArray) (w : World) :
    Calls Tryd.prog 10 #[.string base, .slice a ns.length c] w fun e w' => e = .returned (.tuple #[.string (join base ns).2, .int .i64 (join base ns).1]) ∧ Below w.heap.size w w' := by
  have e : join base ns = (code, ⟨#[]⟩) := by simp [join, hp, hc]
  rw [e]
  have HP : Hid _ := refParse_none hp
  have hc' : (code != 0) = true := by simpa using hc
  clear hp e
  go_enter Tryd.func10, Tryd.ntmps10
  go_wp2_with fail
  refine (HP.out _).mono ?_
  rintro e w1 ⟨a1, c1, rfl, hb⟩
  have HB : Hid _ := hb
  clear hb
  go_wp2
  go_ret2
  exact ⟨rfl, HB.out⟩

theorem take_next {xs : List ByteArray} {k : Nat} {x : ByteArray} (hx : xs[k]? = some x) : xs.take k ++ [x] = xs.take (k + 1) := by rw [List.take_add_one, hx]; rfl

theorem lst_cell {w : World} {a : Option Addr} {xs : List ByteArray} {k : Nat} {x : ByteArray} (h : Lst w a xs) (hx : xs[k]? = some x) : ∃ b o, a = some ⟨b, o, none⟩ ∧ w.cell? ⟨b, o + k, none⟩ = some (.string x) := by
  rcases h with h | ⟨b, o, ha, _, hs⟩
  · rw [h] at hx; cases hx
  · exact ⟨b, o, ha, hs k x hx⟩

set_option maxHeartbeats 8000000 in
set_option maxRecDepth 100000 in
theorem refJoin_good {base : ByteArray} {xs : List ByteArray} (hp : parse base = (0, xs)) (a : Option Addr) (c : Nat) (ns : List ByteArray) (w : World) (hl : Lst w a ns) (hm : ns.length ≤ 9223372036854775807) :
    Calls Tryd.prog 10 #[.string base, .slice a ns.length c] w fun e w' => e = .returned (.tuple #[.string (join base ns).2, .int .i64 (join base ns).1]) ∧ Below w.heap.size w w' := by
  obtain ⟨i0, hi, hz0, hz1, hz2⟩ := info_parts Tryd.info9
  have hx := parse_len hp
  have e : join base ns = if xs.length + ns.length ≤ 6 ∧ ns.all isNm = true then (0, placeB (xs ++ ns)) else (10, ⟨#[]⟩) := by simp [join, hp]
  have HE : Hid _ := e
  have HP : Hid (∀ w, Calls Tryd.prog 27 #[.string base] w fun e w' => ∃ a c, e = .returned (.tuple #[.slice a xs.length c, .int .i64 0]) ∧ Lst w' a xs ∧ Below w.heap.size w w') := fun w => by
    refine (refParse_any base w).mono ?_
    rintro e w' ⟨a, c, h1, h2, _, h3⟩
    rw [hp] at h1 h2
    exact ⟨a, c, h1, h2, h3⟩
  have HL : Hid _ := hl
  have HX : Hid _ := hx
  have hx6 : xs.length ≤ 6 := hx.1
  clear hp hl hx e
  go_enter Tryd.func10, Tryd.ntmps10
  go_wp2_with fail
  refine (HP.out _).mono ?_
  rintro e W ⟨a1, c1, rfl, hl1, hb1⟩
  have HB1 : Hid _ := hb1
  have HL1 : Hid _ := hl1
  have HLn : Hid (Lst W a ns) := Lst.below HL.out hb1
  clear hb1 hl1 HP
  go_wp2
  go_loopw [8, 9] (fun v i wr => ∃ (k : Nat) (done : List ByteArray), i = .int .i64 k ∧ k ≤ xs.length ∧ wr.ownsRow W.heap.size 9 1 v done.length (done.map Value.string) ∧ Below W.heap.size W wr ∧ Hid (done = xs.take k)) (fun _ i _ => xs.length - (intOf i).toNat)
  case atStart => exact ⟨0, [], rfl, Nat.zero_le _, World.ownsRow_nil _ _ _ _, Below.refl _ _, rfl⟩
  case round =>
    obtain ⟨k, done, rfl, hk, hown, hbel, HD⟩ := hrel
    have hdl : done.length ≤ 6 := by rw [HD.out, List.length_take]; omega
    have hbs := hbel.size
    by_cases hlt : k < xs.length
    · obtain ⟨x, hx⟩ : ∃ x, xs[k]? = some x := ⟨xs[k], List.getElem?_eq_getElem hlt⟩
      obtain ⟨b, o, hab, hcell⟩ := lst_cell (Lst.below HL1.out hbel) hx
      subst hab
      have HX1 : Hid (done ++ [x] = xs.take (k + 1)) := by rw [HD.out]; exact take_next hx
      clear hx
      go_wp2_with (first
        | (at_builtin; refine wpList_append_own _ rfl _ _ 27 rfl W.heap.size 9 i0 (.string ByteArray.empty) 1 16 Tryd.underlying27 hi hz0 hz1 hz2 rfl (by decide) _ _ _ rfl (hown.alloc _) ⟨_, 0, none⟩ 1 1 [.string x] rfl rfl (cell_one_new _ _ _) (fun x hx => by simp at hx; subst hx; rfl) (by unfold maxLen; omega) (by omega) (by simp; omega) ?_; intro v' w1 hown' hgrow _)
        | go_in)
      have R : w1.ownsRow W.heap.size 9 1 v' (done ++ [x]).length ((done ++ [x]).map Value.string) ∧ Below W.heap.size W w1 :=
        ⟨by simpa using hown', (hbel.alloc hbel.size _).grown hgrow (by simp; omega) (fun j hj => (hown.lt j hj).1)⟩
      go_roundw
      case rel => exact ⟨k + 1, done ++ [x], by go_num, by omega, R.1, R.2, HX1.out⟩
      case measure => simp [intOf]; omega
    · obtain rfl : k = xs.length := by omega
      have hd0 : done = xs := by rw [HD.out, List.take_length]
      subst hd0
      have HO0 : Hid _ := hown
      have HB2 : Hid _ := hbel
      clear hown hbel HD hk hlt hdl
      go_wp2
      go_loopw [8, 10, 11] (fun v i ok wr2 => ∃ (k : Nat) (all : List ByteArray), i = .int .i64 k ∧ k ≤ ns.length ∧ wr2.ownsRow W.heap.size 9 1 v all.length (all.map Value.string) ∧ Below W.heap.size W wr2 ∧ all.length ≤ 6 ∧ Hid (all = done ++ ns.take k ∧ (ns.take k).all isNm = true)) (fun _ i _ _ => ns.length - (intOf i).toNat)
      case atStart => exact ⟨0, done, rfl, Nat.zero_le _, HO0.out, HB2.out, hx6, by simp, rfl⟩
      case round =>
        obtain ⟨k, all, rfl, hk, hown, hbel, h6, HA⟩ := hrel
        have hbs2 := hbel.size
        by_cases hlt : k < ns.length
        · obtain ⟨x, hx⟩ : ∃ x, ns[k]? = some x := ⟨ns[k], List.getElem?_eq_getElem hlt⟩
          obtain ⟨b, o, hab, hcell⟩ := lst_cell (Lst.below HLn.out hbel) hx
          subst hab
          have HX1 : Hid _ := hx
          clear hx
          cases hnm : isNm x
          · have HF : Hid (join base ns = (10, ⟨#[]⟩)) := by
              show join base ns = _
              rw [HE.out, if_neg]
              rintro ⟨_, h⟩
              rw [all_bad HX1.out hnm] at h
              cases h
            go_wp2_with (first | (go_at_call 28; refine (nameOf_any _ _).mono ?_; rw [hnm]; rintro e w8 ⟨rfl, rfl⟩))
            go_ret2
            exact ⟨by rw [HF.out]; rfl, HB1.out.trans (hbel.mono HB1.out.size)⟩
          · have hall1 : (ns.take (k + 1)).all isNm = true := all_step HX1.out hnm HA.out.2
            have HX2 : Hid (all ++ [x] = done ++ ns.take (k + 1)) := by
              show all ++ [x] = done ++ ns.take (k + 1)
              rw [HA.out.1, List.append_assoc, take_next HX1.out]
            have HAL : Hid _ := hall1
            obtain ⟨all2, h2⟩ : ∃ all2, all ++ [x] = all2 := ⟨_, rfl⟩
            have hl2 : all2.length = all.length + 1 := by rw [← h2]; simp
            have HH2 : Hid _ := h2
            clear hall1 h2
            by_cases h6x : 6 < all2.length
            · have HF : Hid (join base ns = (10, ⟨#[]⟩)) := by
                show join base ns = _
                rw [HE.out, if_neg]
                rintro ⟨h, _⟩
                have e1 : all2.length = done.length + (k + 1) := by rw [← HH2.out, HX2.out, List.length_append, List.length_take]; omega
                omega
              have h6' : (6 : Int) < (all2.length : Int) := by omega
              clear hl2
              go_wp2_with (first
                | (go_at_call 28; refine (nameOf_any _ _).mono ?_; rw [hnm]; rintro e w8 ⟨rfl, rfl⟩)
                | (at_builtin; refine wpList_append_own _ rfl _ _ 27 rfl W.heap.size 9 i0 (.string ByteArray.empty) 1 16 Tryd.underlying27 hi hz0 hz1 hz2 rfl (by decide) _ _ _ rfl (hown.alloc _) ⟨_, 0, none⟩ 1 1 [.string x] rfl rfl (cell_one_new _ _ _) (fun x hx => by simp at hx; subst hx; rfl) (by unfold maxLen; omega) (by omega) (by simp; omega) ?_; intro v' w1 hown' hgrow _
                   have R0 : w1.ownsRow W.heap.size 9 1 v' all2.length (all2.map Value.string) ∧ Below W.heap.size W w1 :=
                     ⟨by rw [← HH2.out]; simpa using hown', (hbel.alloc hbel.size _).grown hgrow (by simp; omega) (fun j hj => (hown.lt j hj).1)⟩
                   obtain ⟨a2, c2, rfl, hL2, hcap2⟩ := lst_of_owns R0.1
                   have R : Hid _ := R0
                   clear R0 hown' hgrow hL2 hcap2)
                | go_in)
              go_ret2
              exact ⟨by rw [HF.out]; rfl, HB1.out.trans (R.out.2.mono HB1.out.size)⟩
            · have h6' : ¬ (6 : Int) < (all2.length : Int) := by omega
              have HL2 : Hid _ := hl2
              clear hl2
              go_wp2_with (first
                | (go_at_call 28; refine (nameOf_any _ _).mono ?_; rw [hnm]; rintro e w8 ⟨rfl, rfl⟩)
                | (at_builtin; refine wpList_append_own _ rfl _ _ 27 rfl W.heap.size 9 i0 (.string ByteArray.empty) 1 16 Tryd.underlying27 hi hz0 hz1 hz2 rfl (by decide) _ _ _ rfl (hown.alloc _) ⟨_, 0, none⟩ 1 1 [.string x] rfl rfl (cell_one_new _ _ _) (fun x hx => by simp at hx; subst hx; rfl) (by unfold maxLen; omega) (by omega) (by simp; omega) ?_; intro v' w1 hown' hgrow _
                   have R0 : w1.ownsRow W.heap.size 9 1 v' all2.length (all2.map Value.string) ∧ Below W.heap.size W w1 :=
                     ⟨by rw [← HH2.out]; simpa using hown', (hbel.alloc hbel.size _).grown hgrow (by simp; omega) (fun j hj => (hown.lt j hj).1)⟩
                   obtain ⟨a2, c2, rfl, hL2, hcap2⟩ := lst_of_owns R0.1
                   have R : Hid _ := R0
                   clear R0 hown' hgrow hL2 hcap2)
                | go_in)
              go_roundw
              case rel => exact ⟨k + 1, all2, by go_num, by omega, R.out.1, R.out.2, by omega, by rw [← HH2.out, HX2.out], HAL.out⟩
              case measure => simp [intOf]; omega
        · obtain rfl : k = ns.length := by omega
          obtain ⟨a2, c2, hv, hL2, hcap2⟩ := lst_of_owns hown
          subst hv
          have hall : ns.all isNm = true := by have := HA.out.2; rwa [List.take_length] at this
          have hae : all = done ++ ns := by have := HA.out.1; rwa [List.take_length] at this
          have hj : join base ns = (0, placeB all) := by
            rw [HE.out, if_pos ⟨by rw [← List.length_append, ← hae]; exact h6, hall⟩, hae]
          have HJ : Hid _ := hj
          have HO : Hid _ := of_any a2 c2 all wr hL2 h6 (by rw [hae, List.all_append, HX.out.2, hall]; rfl)
          obtain ⟨pb, hpb⟩ : ∃ pb, placeB all = pb := ⟨_, rfl⟩
          rw [hpb] at HJ HO
          clear hj hall hae hown hL2 hcap2 hpb
          go_wp2_with fail
          refine Calls.mono HO.out ?_
          rintro e w9 ⟨rfl, rfl⟩
          go_wp2
          go_ret2
          exact ⟨by rw [HJ.out]; rfl, HB1.out.trans (hbel.mono HB1.out.size)⟩

theorem refJoin_any (base : ByteArray) (a : Option Addr) (c : Nat) (ns : List ByteArray) (w : World) (hl : Lst w a ns) (hm : ns.length ≤ 9223372036854775807) :
    Calls Tryd.prog 10 #[.string base, .slice a ns.length c] w fun e w' => e = .returned (.tuple #[.string (join base ns).2, .int .i64 (join base ns).1]) ∧ Below w.heap.size w w' := by
  obtain ⟨code, xs, hp⟩ : ∃ code xs, parse base = (code, xs) := ⟨_, _, rfl⟩
  by_cases hc : code = 0
  · subst hc
    exact refJoin_good hp a c ns w hl hm
  · have hx := parse_code hp hc
    subst hx
    exact refJoin_err hp hc a c ns w
end Go.Proofs.YtblhenblibdjoacDoor
