/-
  Join by a contract.
-/
import Derived.Test.YtblhenblibdjoabDoorPieces
import Derived.Test.YtblhenblibdjoabDoorOf
import Derived.Laws.AppendOwnNone
namespace Go.Proofs.YtblhenblibdjoabDoor
open Go.RowKit

/-- The place of names below a place. -/
def join (base : ByteArray) (ns : List ByteArray) : Int × ByteArray :=
  if (parse base).1 ≠ 0 then ((parse base).1, ⟨#[]⟩) else
  if (parse base).2.length + ns.length ≤ 6 ∧ ns.all isNm = true then (0, placeB ((parse base).2 ++ ns)) else (10, ⟨#[]⟩)

theorem owns_of {base : Nat} {w : World} {a : Option Addr} {c : Nat} {xs : List ByteArray} (h : Own base w a c xs) (hN : xs.length ≤ 6) : w.ownsRow base 9 1 (.slice a xs.length c) xs.length (xs.map Value.string) := by
  rcases h with ⟨rfl, rfl, rfl⟩ | ⟨_, b, rfl, rfl, hle, hblk⟩
  · exact World.ownsRow_nil _ _ _ _
  · refine ⟨by simp, .inr ⟨b, xs.length, _, rfl, hle, hblk, Nat.le_refl _, by unfold maxLen; omega, by simp, ?_⟩⟩
    rw [Nat.mul_one]
    simp [List.take_of_length_le]

theorem join_err {base : ByteArray} {code : Int} (hp : parse base = (code, [])) (hc : code ≠ 0) (a : Option Addr) (c : Nat) (ns : List ByteArray) (w : World) (hg : Ground w) :
    Calls Tryd.prog 23 #[.string base, .slice a ns.length c] w fun e w' => e = .returned (.tuple #[.string (join base ns).2, .int .i64 (join base ns).1]) ∧ Below w.heap.size w w' := by
  have e : join base ns = (code, ⟨#[]⟩) := by simp [join, hp, hc]
  rw [e]
  have HP : Hid _ := parse_none hp
  have HG : Hid (Ground w) := hg
  have hc' : (code != 0) = true := by simpa using hc
  clear hp hg e
  go_enter Tryd.func23, Tryd.ntmps23
  go_wp2_with (first | (go_at_call 19; refine (HP.out _ HG.out).mono ?_; rintro e w1 ⟨rfl, hb⟩; have HB : Hid _ := hb; clear hb))
  go_ret2
  exact ⟨rfl, HB.out⟩

theorem cells_at {w : World} {ad : Addr} {ns : List ByteArray} (h : Lst w (some ad) ns) : ∀ j u, (ns.map Value.string)[j]? = some u → w.cell? (ad.add j) = some u := by
  intro j u hj
  rcases h with rfl | ⟨b, o, ha, _, hs⟩
  · simp at hj
  · have hab : ad = ⟨b, o, none⟩ := Option.some.inj ha
    subst hab
    rw [List.getElem?_map, Option.map_eq_some_iff] at hj
    obtain ⟨x, hx, rfl⟩ := hj
    have : (⟨b, o, none⟩ : Addr).add j = ⟨b, o + j, none⟩ := by unfold Addr.add; split <;> simp_all
    rw [this]
    exact hs j x hx

theorem one_cells (ns : List ByteArray) : ∀ u ∈ ns.map Value.string, u.oneCell' = true := by
  intro u hu
  rw [List.mem_map] at hu
  obtain ⟨y, _, rfl⟩ := hu
  rfl

set_option maxHeartbeats 1600000 in
set_option maxRecDepth 100000 in
theorem join_good {base : ByteArray} {xs : List ByteArray} (hp : parse base = (0, xs)) (a : Option Addr) (c : Nat) (ns : List ByteArray) (w : World) (hg : Ground w) (hl : Lst w a ns) (hn : a = none → c = 0) (hm : ns.length ≤ 9223372036854775807) :
    Calls Tryd.prog 23 #[.string base, .slice a ns.length c] w fun e w' => e = .returned (.tuple #[.string (join base ns).2, .int .i64 (join base ns).1]) ∧ Below w.heap.size w w' := by
  have hx := parse_len hp
  have e : join base ns = if xs.length + ns.length ≤ 6 ∧ ns.all isNm = true then (0, placeB (xs ++ ns)) else (10, ⟨#[]⟩) := by simp [join, hp]
  rw [e]
  clear e
  have HP : Hid (∀ w, Ground w → Calls Tryd.prog 19 #[.string base] w fun e w' => ∃ a c, e = .returned (.tuple #[.slice a xs.length c, .int .i64 0]) ∧ Own w.heap.size w' a c xs ∧ Below w.heap.size w w') := fun w hg => by
    refine (parse_any base w hg).mono ?_
    rintro e w' ⟨a, c, h1, h2, h3⟩
    rw [hp] at h1 h2
    exact ⟨a, c, h1, h2, h3⟩
  have HG : Hid (Ground w) := hg
  have HL : Hid _ := hl
  have HX : Hid _ := hx
  have hx6 : xs.length ≤ 6 := hx.1
  clear hp hg hl hx
  by_cases h6 : xs.length + ns.length ≤ 6
  · have h6' : ¬ (6 : Int) - (xs.length : Int) < (ns.length : Int) := by omega
    cases hall : ns.all isNm
    · rw [if_neg (by simp)]
      go_enter Tryd.func23, Tryd.ntmps23
      go_wp2_with fail
      refine (HP.out _ HG.out).mono ?_
      rintro e w1 ⟨a1, c1, rfl, ho1, hb1⟩
      have HB1 : Hid _ := hb1
      have HL1 : Hid _ := Lst.below HL.out hb1
      clear ho1 hb1
      go_wp2_with (first | (go_at_call 44; refine (areNames_any _ _ ns _ (HG.out.below HB1.out) HL1.out hm).mono ?_; rw [hall]; rintro e w2 ⟨rfl, rfl⟩))
      go_ret2
      exact ⟨rfl, HB1.out⟩
    · rw [if_pos ⟨h6, rfl⟩]
      obtain ⟨i0, hi, hz0, hz1, hz2⟩ := info_parts Tryd.info9
      obtain ⟨pb, hpb⟩ : ∃ pb, placeB (xs ++ ns) = pb := ⟨_, rfl⟩
      rw [hpb]
      have HPB : Hid _ := hpb
      clear hpb
      go_enter Tryd.func23, Tryd.ntmps23
      go_wp2_with fail
      refine (HP.out _ HG.out).mono ?_
      rintro e w1 ⟨a1, c1, rfl, ho1, hb1⟩
      have HB1 : Hid _ := hb1
      have HL1 : Hid _ := Lst.below HL.out hb1
      have hown := owns_of ho1 hx6
      have hbs := hb1.size
      clear ho1 hb1
      cases a with
      | none =>
        have hc0 := hn rfl
        subst hc0
        have hns : ns = [] := by
          rcases HL.out with h | ⟨b, o, h, _⟩
          · exact h
          · cases h
        subst hns
        simp only [List.length_nil]
        go_wp2_with (first
          | (go_at_call 44; refine (areNames_any _ _ [] _ (HG.out.below HB1.out) HL1.out (by decide)).mono ?_; rintro e w2 ⟨rfl, rfl⟩)
          | (at_builtin; refine wpList_append_own_none rfl _ _ 37 rfl w.heap.size 9 i0 1 Tryd.underlying37 hi _ _ _ rfl hown rfl ?_)
          | fail)
        obtain ⟨a2, c2, hv2, hL2, hcap2⟩ := lst_of_owns hown
        simp only [Value.slice.injEq, true_and] at hv2
        obtain ⟨rfl, rfl⟩ := hv2
        have hpo := placeOf_any a1 c1 xs _ hL2 hcap2.1 (by omega) HX.out.2
        rw [show placeB xs = pb by rw [← HPB.out, List.append_nil]] at hpo
        refine hpo.mono ?_
        rintro e w3 ⟨rfl, hb3⟩
        have HB3 : Hid _ := trans2 HB1.out hb3
        clear hb3 hown hL2 hcap2 hpo
        go_wp2
        go_ret2
        exact ⟨rfl, HB3.out⟩
      | some ad =>
        go_wp2_with (first
          | (go_at_call 44; refine (areNames_any _ _ ns _ (HG.out.below HB1.out) HL1.out hm).mono ?_; rw [hall]; rintro e w2 ⟨rfl, rfl⟩)
          | (at_builtin; refine wpList_append_own _ rfl _ _ 37 rfl w.heap.size 9 i0 (.string ByteArray.empty) 1 16 Tryd.underlying37 hi hz0 hz1 hz2 rfl (by decide) _ _ _ rfl hown ad ns.length c (ns.map Value.string) rfl (by simp) (cells_at HL1.out) (one_cells ns) (by unfold maxLen; omega) (by omega) hbs ?_; intro v' w2 hown' hgrow _)
          | fail)
        have hown2 : w2.ownsRow w.heap.size 9 1 v' (xs ++ ns).length ((xs ++ ns).map Value.string) := by simpa using hown'
        have HB2 : Hid (Below w.heap.size w w2) := HB1.out.grown hgrow hbs (fun j hj => (hown.lt j hj).1)
        obtain ⟨a2, c2, rfl, hL2, hcap2⟩ := lst_of_owns hown2
        refine (placeOf_any a2 c2 (xs ++ ns) w2 hL2 hcap2.1 (by simp; omega) (by rw [List.all_append, HX.out.2, hall]; rfl)).mono ?_
        rw [HPB.out]
        rintro e w3 ⟨rfl, hb3⟩
        have HB3 : Hid _ := trans2 HB2.out hb3
        clear hb3 hown hown' hown2 hL2 hcap2 hgrow
        go_wp2
        go_ret2
        exact ⟨rfl, HB3.out⟩
  · have h6' : (6 : Int) - (xs.length : Int) < (ns.length : Int) := by omega
    rw [if_neg (by omega)]
    go_enter Tryd.func23, Tryd.ntmps23
    go_wp2_with fail
    refine (HP.out _ HG.out).mono ?_
    rintro e w1 ⟨a1, c1, rfl, ho1, hb1⟩
    have HB1 : Hid _ := hb1
    clear ho1 hb1
    go_wp2
    go_ret2
    exact ⟨rfl, HB1.out⟩

theorem join_any (base : ByteArray) (a : Option Addr) (c : Nat) (ns : List ByteArray) (w : World) (hg : Ground w) (hl : Lst w a ns) (hn : a = none → c = 0) (hm : ns.length ≤ 9223372036854775807) :
    Calls Tryd.prog 23 #[.string base, .slice a ns.length c] w fun e w' => e = .returned (.tuple #[.string (join base ns).2, .int .i64 (join base ns).1]) ∧ Below w.heap.size w w' := by
  obtain ⟨code, xs, hp⟩ : ∃ code xs, parse base = (code, xs) := ⟨_, _, rfl⟩
  by_cases hc : code = 0
  · subst hc
    exact join_good hp a c ns w hg hl hn hm
  · have hx := parse_code hp hc
    subst hx
    exact join_err hp hc a c ns w hg
end Go.Proofs.YtblhenblibdjoabDoor
