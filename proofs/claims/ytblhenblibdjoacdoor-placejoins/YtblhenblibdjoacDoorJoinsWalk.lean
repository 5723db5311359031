/-
  PlaceJoins: the walk.
-/
import Derived.Test.YtblhenblibdjoacDoorRefJoin
import Derived.Test.YtblhenblibdjoacDoorRowsy
import Derived.OneCell
namespace Go.Proofs.YtblhenblibdjoacDoor
open Go.RowKit

theorem joinIs {base : ByteArray} {ns : List ByteArray} {F : Int} {U : ByteArray} (h : join base ns = (F, U)) (a : Option Addr) (n c : Nat) (hnl : ns.length = n) (w : World) (hg : Ground w) (hl : Lst w a ns) (hn : a = none → c = 0) (hm : n ≤ 9223372036854775807) :
    Calls Tryd.prog 11 #[.string base, .slice a n c] w fun e w' => e = .returned (.tuple #[.string U, .int .i64 F]) ∧ Below w.heap.size w w' := by
  subst hnl
  have := join_any base a c ns w hg hl hn hm
  rw [h] at this
  exact this
theorem refJoinIs {base : ByteArray} {ns : List ByteArray} {F : Int} {U : ByteArray} (h : join base ns = (F, U)) (a : Option Addr) (n c : Nat) (hnl : ns.length = n) (w : World) (hl : Lst w a ns) (hm : n ≤ 9223372036854775807) :
    Calls Tryd.prog 10 #[.string base, .slice a n c] w fun e w' => e = .returned (.tuple #[.string U, .int .i64 F]) ∧ Below w.heap.size w w' := by
  subst hnl
  have := refJoin_any base a c ns w hl hm
  rw [h] at this
  exact this

theorem row_below {B e k n : Nat} {v : Value} {xs : List Value} {w w' : World} (h : w.ownsRow B e k v n xs) (hb : Below w.heap.size w w') : w'.ownsRow B e k v n xs := by
  refine ⟨h.1, ?_⟩
  rcases h.2 with h2 | ⟨g, cap, cur, hv, hB, hg, r⟩
  · exact .inl h2
  · exact .inr ⟨g, cap, cur, hv, hB, by rw [hb.block g (Array.getElem?_eq_some_iff.1 hg).1]; exact hg, r⟩

theorem num_any (F : Int) (w : World) : Calls Tryd.prog 12 #[.int .i64 F] w fun e w' => e = .returned (.int .i64 F) ∧ w' = w := by
  go_enter Tryd.func12, Tryd.ntmps12
  go_wp2
  go_ret
  exact ⟨rfl, rfl⟩

theorem conv_one (w : World) (z : Int) : (convert 34 9 (.slice (some ⟨w.heap.size, 0, none⟩) 1 1)).run Tryd.prog (w.alloc (.cells #[.int .u8 z] 5)) = .ok (.string (strOfNums [z])) (w.alloc (.cells #[.int .u8 z] 5)) := by
  refine run_convert_bytes_arg _ 34 5 Tryd.underlying34 Tryd.underlying5 w.heap.size 0 1 1 [z] rfl (fun i hi => ?_) 9 Tryd.underlying9
  obtain rfl : i = 0 := by omega
  simp

/-- The texts laid behind the names. -/
def behind : List ByteArray := [⟨#[98, 101, 104, 105, 110, 100, 32, 49]⟩, ⟨#[98, 101, 104, 105, 110, 100, 32, 50]⟩]

theorem lst_of_row {w : World} {base g n cap : Nat} {rs : List ByteArray} (h : w.ownsRow base 9 1 (.slice (some ⟨g, 0, none⟩) n cap) n (rs.map Value.string)) : Lst w (some ⟨g, 0, none⟩) rs := by
  have hl : rs.length = n := by simpa using h.1
  subst hl
  obtain ⟨a, c, hv, hL, _⟩ := lst_of_owns h
  simp only [Value.slice.injEq, true_and] at hv
  rw [hv.1]
  exact hL
theorem lst_takes {w : World} {a : Option Addr} {xs : List ByteArray} (h : Lst w a xs) (k : Nat) : Lst w a (xs.take k) := by
  rcases h with h | ⟨b, o, ha, hlt, hs⟩
  · exact .inl (by rw [h]; simp)
  · refine .inr ⟨b, o, ha, hlt, fun j x hx => hs j x ?_⟩
    rw [List.getElem?_take] at hx
    split at hx
    · exact hx
    · cases hx
theorem row_cell {w : World} {base g n cap k : Nat} {rs : List ByteArray} {x : ByteArray} (h : w.ownsRow base 9 1 (.slice (some ⟨g, 0, none⟩) n cap) n (rs.map Value.string)) (hx : rs[k]? = some x) : w.cell? ⟨g, k, none⟩ = some (.string x) := by
  have hl : rs.length = n := by simpa using h.1
  have hk : k < rs.length := (List.getElem?_eq_some_iff.1 hx).1
  rw [h.cellAt k (by omega), List.getElem?_map, hx]
  rfl
theorem take_set_step {rs os : List ByteArray} {k : Nat} {x : ByteArray} (h : rs.take k = os.take k) (hx : os[k]? = some x) (hk : k < rs.length) : (rs.set k x).take (k + 1) = os.take (k + 1) := by
  rw [List.take_add_one, List.take_add_one, hx, ← h, List.getElem?_set_self hk, List.take_set, List.set_eq_of_length_le (by simp; omega)]
theorem row_set {w : World} {base g n cap k : Nat} {rs : List ByteArray} (x : ByteArray) (h : w.ownsRow base 9 1 (.slice (some ⟨g, 0, none⟩) n cap) n (rs.map Value.string)) : (w.setCell ⟨g, k, none⟩ (.string x)).ownsRow base 9 1 (.slice (some ⟨g, 0, none⟩) n cap) n ((rs.set k x).map Value.string) := by
  have := (h.stored k (.string x)).1
  rwa [← List.map_set] at this

set_option maxHeartbeats 16000000 in
set_option maxRecDepth 100000 in
theorem joins_walk (base : ByteArray) (a : Option Addr) (c : Nat) (ns : List ByteArray) (w : World) (hl : Lst w a ns) (hn : a = none → c = 0) (h16 : ns.length * 16 ≤ 140737488351232) (hg : Ground w) :
    Calls Tryd.prog 4 #[.string base, .slice a ns.length c] w fun e w' => e = .returned (.bool true) ∧ Below w.heap.size w w' := by
  obtain ⟨i0, hi, hz0, hz1, hz2⟩ := info_parts Tryd.info9
  obtain ⟨F, U, hj⟩ : ∃ F U, join base ns = (F, U) := ⟨_, _, rfl⟩
  have HJ : Hid _ := hj
  have HG : Hid _ := hg
  have HL : Hid _ := hl
  have hm : ns.length ≤ 9223372036854775807 := by omega
  clear hj hg hl
  go_enter Tryd.func4, Tryd.ntmps4
  go_wp2_with fail
  refine (refJoinIs HJ.out a _ c rfl w HL.out hm).mono ?_
  rintro e W ⟨rfl, hb1⟩
  have HB1 : Hid _ := hb1
  have HL1 : Hid (Lst W a ns) := Lst.below HL.out hb1
  clear hb1
  go_wp2
  go_loopw [7, 8] (fun v i wr => ∃ (k : Nat) (done : List ByteArray), i = .int .i64 k ∧ k ≤ ns.length ∧ wr.ownsRow W.heap.size 9 1 v done.length (done.map Value.string) ∧ Below W.heap.size W wr ∧ Hid (done = ns.take k)) (fun _ i _ => ns.length - (intOf i).toNat)
  case atStart => exact ⟨0, [], rfl, Nat.zero_le _, World.ownsRow_nil _ _ _ _, Below.refl _ _, rfl⟩
  case round =>
    obtain ⟨k, done, rfl, hk, hown, hbel, HD⟩ := hrel
    have hdl : done.length ≤ ns.length := by rw [HD.out, List.length_take]; omega
    have hbs := hbel.size
    by_cases hlt : k < ns.length
    · obtain ⟨x, hx⟩ : ∃ x, ns[k]? = some x := ⟨ns[k], List.getElem?_eq_getElem hlt⟩
      obtain ⟨b, o, hab, hcell⟩ := lst_cell (Lst.below HL1.out hbel) hx
      subst hab
      have hdl2 : done.length = k := by rw [HD.out, List.length_take]; omega
      have hdlb : (done.length + 1) * 16 ≤ 140737488355328 := by omega
      have HX1 : Hid (done ++ [x] = ns.take (k + 1)) := by rw [HD.out]; exact take_next hx
      clear hx hdl2
      go_wp2_with (first
        | (at_builtin; refine wpList_append_own _ rfl _ _ 27 rfl W.heap.size 9 i0 (.string ByteArray.empty) 1 16 Tryd.underlying27 hi hz0 hz1 hz2 rfl (by decide) _ _ _ rfl (hown.alloc _) ⟨_, 0, none⟩ 1 1 [.string x] rfl rfl (cell_one_new _ _ _) (fun x hx => by simp at hx; subst hx; rfl) (by unfold maxLen; omega) (by omega) (by simp; omega) ?_; intro v' w1 hown' hgrow _)
        | go_in)
      have R : w1.ownsRow W.heap.size 9 1 v' (done ++ [x]).length ((done ++ [x]).map Value.string) ∧ Below W.heap.size W w1 :=
        ⟨by simpa using hown', (hbel.alloc hbel.size _).grown hgrow (by simp; omega) (fun j hj => (hown.lt j hj).1)⟩
      go_roundw
      case rel => exact ⟨k + 1, done ++ [x], by go_num, by omega, R.1, R.2, HX1.out⟩
      case measure => simp [intOf]; omega
    · obtain rfl : k = ns.length := by omega
      have hd0 : done = ns := by rw [HD.out, List.take_length]
      rw [hd0] at hown
      have hdlb : (ns.length + 2) * 16 ≤ 140737488355328 := by omega
      clear hdl hk hlt HD hd0
      go_wp2_with (first
        | (at_builtin; refine wpList_append_own _ rfl _ _ 27 rfl W.heap.size 9 i0 (.string ByteArray.empty) 1 16 Tryd.underlying27 hi hz0 hz1 hz2 rfl (by decide) _ _ _ rfl (hown.alloc _) ⟨wr.heap.size, 0, none⟩ 2 2 (behind.map Value.string) rfl rfl (cells_at (ns := behind) (.inr ⟨_, 0, rfl, by simp, strs_new _ behind⟩)) (one_cells _) (by unfold maxLen; omega) (by omega) (by simp; omega) ?_; intro v' w1 hown' hgrow _
           have hb2 : Below W.heap.size W w1 := (hbel.alloc hbel.size _).grown hgrow (by simp; omega) (fun j hj => (hown.lt j hj).1)
           obtain ⟨g, cap, rfl⟩ : ∃ g cap, v' = .slice (some ⟨g, 0, none⟩) (ns.length + 2) cap := by
             rcases hown'.2 with ⟨_, h0⟩ | ⟨g, cap, _, rfl, _⟩
             · omega
             · exact ⟨g, cap, rfl⟩
           have hr2 : w1.ownsRow W.heap.size 9 1 (.slice (some ⟨g, 0, none⟩) (ns.length + 2) cap) (ns.length + 2) ((ns ++ behind).map Value.string) := by rw [List.map_append]; exact hown'
           have hcc : ns.length + 2 ≤ cap ∧ cap ≤ maxLen := by
             rcases hr2.2 with ⟨h, _⟩ | ⟨g', cap', _, h, _, _, h1, h2, _⟩
             · cases h
             · simp only [Value.slice.injEq, Option.some.injEq, Addr.mk.injEq, and_true, true_and] at h
               obtain ⟨_, rfl⟩ := h
               exact ⟨h1, h2⟩
           have hc1 : ns.length + 2 ≤ cap := hcc.1
           have hc2 : cap ≤ 9223372036854775807 := by have := hcc.2; unfold maxLen at this; omega
           have hgg : W.heap.size ≤ g := (hr2.lt g rfl).1
           have HR : Hid _ := hr2
           have HB2 : Hid _ := hb2
           clear hown' hgrow hr2 hb2 hcc)
        | fail)
      clear hown hbel hbs
      have HBw : Hid (Below w.heap.size w w1) := HB1.out.trans (HB2.out.mono HB1.out.size)
      refine (joinIs HJ.out (some ⟨g, 0, none⟩) _ cap rfl w1 (HG.out.below HBw.out) (by have := lst_takes (lst_of_row HR.out) ns.length; rwa [List.take_left] at this) (fun h => by cases h) hm).mono ?_
      rintro e w2 ⟨rfl, hb3⟩
      have HBx : Hid (Below w.heap.size w w2) := trans2 HBw.out hb3
      have HR2 : Hid (w2.ownsRow W.heap.size 9 1 (.slice (some ⟨g, 0, none⟩) (ns.length + 2) cap) (ns.length + 2) ((ns ++ behind).map Value.string)) := row_below HR.out hb3
      have HLw2 : Hid (Lst w2 a ns) := Lst.below HL.out HBx.out
      have hgW : w.heap.size ≤ g := Nat.le_trans HB1.out.size hgg
      clear hb3 HR HB2
      go_wp2
      go_loopw [11] (fun i wr => ∃ k m : Nat, i = .int .i64 k ∧ wr = w2.drewN m ∧ k ≤ ns.length) (fun i _ => ns.length - (intOf i).toNat)
      case atStart => exact ⟨0, 0, rfl, rfl, by omega⟩
      case round =>
        obtain ⟨k, m, rfl, rfl, hk⟩ := hrel
        by_cases hlt : k < ns.length
        · obtain ⟨x, hx⟩ : ∃ x, ns[k]? = some x := ⟨ns[k], List.getElem?_eq_getElem hlt⟩
          obtain ⟨b, o, hab, hcell⟩ := lst_cell HLw2.out hx
          subst hab
          have hcell2 : w2.cell? ⟨g, k, none⟩ = some (.string x) := row_cell HR2.out (by rw [List.getElem?_append_left hlt]; exact hx)
          have hlt' : (k : Int) < (ns.length : Int) := by omega
          have hlt3 : (k : Int) < (ns.length : Int) + 2 := by omega
          clear hx
          go_wp2
          go_quiet (fail)
          go_wp2
          go_roundw
          case rel => exact ⟨k + 1, m + nq, by go_num, rfl, by omega⟩
          case measure => simp [intOf]; omega
        · obtain rfl : k = ns.length := by omega
          have hcB1 : w2.cell? ⟨g, ns.length, none⟩ = some (.string ⟨#[98, 101, 104, 105, 110, 100, 32, 49]⟩) := row_cell HR2.out (by rw [List.getElem?_append_right (Nat.le_refl _), Nat.sub_self]; rfl)
          have hcB2 : w2.cell? ⟨g, ns.length + 1, none⟩ = some (.string ⟨#[98, 101, 104, 105, 110, 100, 32, 50]⟩) := row_cell HR2.out (by rw [List.getElem?_append_right (by omega), Nat.add_sub_cancel_left]; rfl)
          go_wp2_with (first | (go_at_call 12; refine (num_any _ _).mono ?_; rintro e w7 ⟨rfl, rfl⟩) | fail)
          clear hcB1 hcB2 HLw2 hk hlt
          go_loopw [12] (fun t wr => ∃ (k : Nat) (rs : List ByteArray), t = .int .i64 k ∧ k ≤ 3 ∧ wr.ownsRow W.heap.size 9 1 (.slice (some ⟨g, 0, none⟩) (ns.length + 2) cap) (ns.length + 2) (rs.map Value.string) ∧ Below w.heap.size w wr) (fun t _ => 3 - (intOf t).toNat)
          case atStart => exact ⟨0, _, rfl, by omega, row_below HR2.out (below_drewN (Below.refl _ _) _), below_drewN HBx.out _⟩
          case round =>
            obtain ⟨k, rs, rfl, hk3, hrow, hbT⟩ := hrel
            have HRT : Hid _ := hrow
            have HBT : Hid _ := hbT
            clear hrow hbT
            by_cases hgo : k < 3 ∧ 0 < ns.length
            · obtain ⟨hk, hpos⟩ := hgo
              have hpos' : (0 : Int) < (ns.length : Int) := by omega
              have hk' : (k : Int) < 3 := by omega
              go_wp2
              obtain ⟨m1, hm1⟩ : ∃ m1, ns.length = m1 + 1 := ⟨ns.length - 1, by omega⟩
              have hsub1 : IntKind.i64.wrap ((ns.length : Int) - 1) = (m1 : Int) := by rw [IntKind.wrap_i64]; omega
              have HM1 : Hid _ := hm1
              have HLT : Hid (Lst wr a ns) := Lst.below HL.out HBT.out
              clear hm1
              obtain ⟨WT, rfl⟩ : ∃ WT, WT = wr := ⟨_, rfl⟩
              go_loopw [13, 14] (fun v i wr => ∃ (k : Nat) (done : List ByteArray), i = .int .i64 k ∧ k ≤ ns.length ∧ wr.ownsRow WT.heap.size 9 1 v done.length (done.map Value.string) ∧ Below WT.heap.size WT wr ∧ Hid (done = ns.reverse.take k)) (fun _ i _ => ns.length - (intOf i).toNat)
              case atStart => exact ⟨0, [], rfl, Nat.zero_le _, World.ownsRow_nil _ _ _ _, Below.refl _ _, rfl⟩
              case round =>
                obtain ⟨q, done, rfl, hq, hown, hbel, HD⟩ := hrel
                have hbs := hbel.size
                have hdl : done.length = q := by rw [HD.out, List.length_take, List.length_reverse]; omega
                by_cases hlt : q < ns.length
                · obtain ⟨j, hj⟩ : ∃ j, q + j = m1 := ⟨m1 - q, by have := HM1.out; omega⟩
                  have hjl : j < ns.length := by have := HM1.out; omega
                  obtain ⟨x, hx⟩ : ∃ x, ns[j]? = some x := ⟨ns[j], List.getElem?_eq_getElem hjl⟩
                  have hxr : ns.reverse[q]? = some x := by
                    rw [List.getElem?_reverse hlt, show ns.length - 1 - q = j by have := HM1.out; omega]
                    exact hx
                  obtain ⟨b, o, hab, hcell⟩ := lst_cell (Lst.below HLT.out hbel) hx
                  subst hab
                  have hsub2 : IntKind.i64.wrap ((m1 : Int) - (q : Int)) = (j : Int) := by rw [IntKind.wrap_i64]; have := HM1.out; omega
                  have hdlb : (done.length + 1) * 16 ≤ 140737488355328 := by omega
                  have hjl' : (j : Int) < (ns.length : Int) := by omega
                  have HX1 : Hid (done ++ [x] = ns.reverse.take (q + 1)) := by rw [HD.out]; exact take_next hxr
                  clear hx hxr hdl hj
                  go_wp2_with (first
                    | (at_builtin; refine wpList_append_own _ rfl _ _ 27 rfl WT.heap.size 9 i0 (.string ByteArray.empty) 1 16 Tryd.underlying27 hi hz0 hz1 hz2 rfl (by decide) _ _ _ rfl (hown.alloc _) ⟨_, 0, none⟩ 1 1 [.string x] rfl rfl (cell_one_new _ _ _) (fun x hx => by simp at hx; subst hx; rfl) (by unfold maxLen; omega) (by omega) (by simp; omega) ?_; intro v' w1 hown' hgrow _)
                    | go_in)
                  have R : w1.ownsRow WT.heap.size 9 1 v' (done ++ [x]).length ((done ++ [x]).map Value.string) ∧ Below WT.heap.size WT w1 :=
                    ⟨by simpa using hown', (hbel.alloc hbel.size _).grown hgrow (by simp; omega) (fun j hj => (hown.lt j hj).1)⟩
                  go_roundw
                  case rel => exact ⟨q + 1, done ++ [x], by go_num, by omega, R.1, R.2, HX1.out⟩
                  case measure => simp [intOf]; omega
                · obtain rfl : q = ns.length := by omega
                  have hos : done = ns.reverse := by rw [HD.out, List.take_of_length_le (by simp)]
                  obtain ⟨go, co, hvo⟩ : ∃ go co, u13 = .slice (some ⟨go, 0, none⟩) done.length co := by
                    rcases hown.2 with ⟨_, h0⟩ | ⟨go, co, _, h, _⟩
                    · omega
                    · exact ⟨go, co, h⟩
                  rw [hdl] at hown hvo
                  subst hvo
                  have hgo1 : WT.heap.size ≤ go := (hown.lt go rfl).1
                  have hgT : g < WT.heap.size := (World.ownsRow.lt (show WT.ownsRow W.heap.size 9 1 (.slice (some ⟨g, 0, none⟩) (ns.length + 2) cap) (ns.length + 2) (rs.map Value.string) from HRT.out) g rfl).2
                  have hneg : go ≠ g := by omega
                  have hrow0 : wr.ownsRow W.heap.size 9 1 (.slice (some ⟨g, 0, none⟩) (ns.length + 2) cap) (ns.length + 2) (rs.map Value.string) := row_below HRT.out hbel
                  have hb0 : Below w.heap.size w wr := trans2 HBT.out hbel
                  have hol : done.length = ns.length := by rw [hos, List.length_reverse]
                  have HM2 : Hid _ := hb0
                  rcases (show k = 0 ∨ k = 1 ∨ k = 2 by omega) with rfl | rfl | rfl
                  · have HR0 : Hid _ := hrow0
                    have HO0 : Hid _ := hown
                    have HB0 : Hid _ := hb0
                    have HOL : Hid _ := hol
                    clear hrow0 hown hb0 hol hos HD hdl hbel hbs hq hlt
                    obtain ⟨os, rfl⟩ : ∃ os, os = done := ⟨_, rfl⟩
                    go_wp2
                    obtain ⟨F2, U2, hj2⟩ : ∃ F2 U2, join base os = (F2, U2) := ⟨_, _, rfl⟩
                    have HJ2 : Hid _ := hj2
                    clear hj2
                    go_loopw [15] (fun i wr => ∃ (q : Nat) (rs : List ByteArray), i = .int .i64 q ∧ q ≤ ns.length ∧ wr.ownsRow W.heap.size 9 1 (.slice (some ⟨g, 0, none⟩) (ns.length + 2) cap) (ns.length + 2) (rs.map Value.string) ∧ wr.ownsRow WT.heap.size 9 1 (.slice (some ⟨go, 0, none⟩) ns.length co) ns.length (os.map Value.string) ∧ Below w.heap.size w wr ∧ Hid (rs.take q = os.take q)) (fun i _ => ns.length - (intOf i).toNat)
                    case atStart => exact ⟨0, rs, rfl, Nat.zero_le _, HR0.out, HO0.out, HB0.out, rfl⟩
                    case round =>
                      obtain ⟨q, rs, rfl, hq, hrow, hrowO, hbq, HQ⟩ := hrel
                      by_cases hlt : q < ns.length
                      · obtain ⟨x, hx⟩ : ∃ x, os[q]? = some x := ⟨os[q]'(by rw [HOL.out]; exact hlt), List.getElem?_eq_getElem _⟩
                        have hcell := row_cell hrowO hx
                        have hrl : rs.length = ns.length + 2 := by simpa using hrow.1
                        obtain ⟨y, hy⟩ : ∃ y, rs[q]? = some y := ⟨rs[q]'(by omega), List.getElem?_eq_getElem _⟩
                        have hcell2 := row_cell hrow hy
                        have hfz := hrow.frozenAt q
                        have HX : Hid _ := take_set_step HQ.out hx (by omega)
                        have HR3 : Hid _ := row_set (k := q) x hrow
                        have HO3 : Hid _ := ownsRow_setCell_other hrowO (a := ⟨g, q, none⟩) (by simp [Value.ownBlock]; omega) (.string x)
                        have HB3 : Hid _ := hbq.setCell (p := ⟨g, q, none⟩) hgW (.string x)
                        have hlt' : (q : Int) < (ns.length : Int) := by omega
                        have hlt3 : (q : Int) < (ns.length : Int) + 2 := by omega
                        clear hx hy hrl hrow hrowO hbq
                        go_wp2
                        go_roundw
                        case rel => exact ⟨q + 1, rs.set q x, by go_num, by omega, HR3.out, HO3.out, HB3.out, HX.out⟩
                        case measure => simp [intOf]; omega
                      · obtain rfl : q = ns.length := by omega
                        have hend : rs.take ns.length = os := by rw [HQ.out, List.take_of_length_le (by rw [HOL.out]; exact Nat.le_refl _)]
                        have HEND : Hid _ := hend
                        have HR4 : Hid _ := hrow
                        have HO4 : Hid _ := hrowO
                        have HB4 : Hid _ := hbq
                        clear hend hrow hrowO hbq hlt hq
                        go_wp2_with fail
                        refine (refJoinIs HJ2.out (some ⟨go, 0, none⟩) _ co HOL.out _ (lst_of_row HO4.out) hm).mono ?_
                        rintro e w5 ⟨rfl, hb5⟩
                        have HB5 : Hid (Below w.heap.size w w5) := trans2 HB4.out hb5
                        have HR5 : Hid (w5.ownsRow W.heap.size 9 1 (.slice (some ⟨g, 0, none⟩) (ns.length + 2) cap) (ns.length + 2) (rs.map Value.string)) := row_below HR4.out hb5
                        clear hb5
                        go_wp2_with fail
                        refine (joinIs HJ2.out (some ⟨g, 0, none⟩) _ cap HOL.out w5 (HG.out.below HB5.out) (by have := lst_takes (lst_of_row HR5.out) ns.length; rwa [HEND.out] at this) (fun h => by cases h) hm).mono ?_
                        rintro e w6 ⟨rfl, hb6⟩
                        have HB6 : Hid (Below w.heap.size w w6) := trans2 HB5.out hb6
                        have HR6 : Hid (w6.ownsRow W.heap.size 9 1 (.slice (some ⟨g, 0, none⟩) (ns.length + 2) cap) (ns.length + 2) (rs.map Value.string)) := row_below HR5.out hb6
                        clear hb6
                        go_wp2_with (first | (go_at_call 12; refine (num_any _ _).mono ?_; rintro e w7 ⟨rfl, rfl⟩) | fail)
                        go_roundw
                        case rel => exact ⟨1, rs, by go_num, by omega, HR6.out, HB6.out⟩
                        case measure => simp [intOf]
                  · have h1 : (0 : Int) < (ns.length : Int) := by omega
                    obtain ⟨y0, hy0⟩ : ∃ y, done[0]? = some y := ⟨done[0]'(by omega), List.getElem?_eq_getElem _⟩
                    have hc0 := row_cell (hown.alloc (.cells #[.int .u8 49] 5)) hy0
                    have hconv : (convert 34 9 (.slice (some ⟨wr.heap.size, 0, none⟩) 1 1)).run Tryd.prog (wr.alloc (.cells #[.int .u8 49] 5)) = .ok (.string ⟨#[49]⟩) (wr.alloc (.cells #[.int .u8 49] 5)) := conv_one wr 49
                    have hf0 := (hown.alloc (.cells #[.int .u8 49] 5)).frozenAt 0
                    have HR0 : Hid _ := ownsRow_setCell_other (hrow0.alloc (.cells #[.int .u8 49] 5)) (a := ⟨go, 0, none⟩) (by simp [Value.ownBlock]; omega) (.string ⟨#[113, 49]⟩)
                    have HO0 : Hid _ := row_set (k := 0) ⟨#[113, 49]⟩ (hown.alloc (.cells #[.int .u8 49] 5))
                    have HB0 : Hid _ := (hb0.alloc hb0.size (.cells #[.int .u8 49] 5)).setCell (p := ⟨go, 0, none⟩) (Nat.le_trans HBT.out.size hgo1) (.string ⟨#[113, 49]⟩)
                    have HOL : Hid ((done.set 0 ⟨#[113, 49]⟩).length = ns.length) := by show _ = _; rw [List.length_set]; exact hol
                    clear hrow0 hown hb0 hol hos HD hdl hbel hbs hq hlt hy0
                    obtain ⟨os, hos2⟩ : ∃ os, os = done.set 0 ⟨#[113, 49]⟩ := ⟨_, rfl⟩
                    rw [← hos2] at HO0 HOL
                    go_wp2
                    obtain ⟨F2, U2, hj2⟩ : ∃ F2 U2, join base os = (F2, U2) := ⟨_, _, rfl⟩
                    have HJ2 : Hid _ := hj2
                    clear hj2
                    go_loopw [15] (fun i wr => ∃ (q : Nat) (rs : List ByteArray), i = .int .i64 q ∧ q ≤ ns.length ∧ wr.ownsRow W.heap.size 9 1 (.slice (some ⟨g, 0, none⟩) (ns.length + 2) cap) (ns.length + 2) (rs.map Value.string) ∧ wr.ownsRow WT.heap.size 9 1 (.slice (some ⟨go, 0, none⟩) ns.length co) ns.length (os.map Value.string) ∧ Below w.heap.size w wr ∧ Hid (rs.take q = os.take q)) (fun i _ => ns.length - (intOf i).toNat)
                    case atStart => exact ⟨0, rs, rfl, Nat.zero_le _, HR0.out, HO0.out, HB0.out, rfl⟩
                    case round =>
                      obtain ⟨q, rs, rfl, hq, hrow, hrowO, hbq, HQ⟩ := hrel
                      by_cases hlt : q < ns.length
                      · obtain ⟨x, hx⟩ : ∃ x, os[q]? = some x := ⟨os[q]'(by rw [HOL.out]; exact hlt), List.getElem?_eq_getElem _⟩
                        have hcell := row_cell hrowO hx
                        have hrl : rs.length = ns.length + 2 := by simpa using hrow.1
                        obtain ⟨y, hy⟩ : ∃ y, rs[q]? = some y := ⟨rs[q]'(by omega), List.getElem?_eq_getElem _⟩
                        have hcell2 := row_cell hrow hy
                        have hfz := hrow.frozenAt q
                        have HX : Hid _ := take_set_step HQ.out hx (by omega)
                        have HR3 : Hid _ := row_set (k := q) x hrow
                        have HO3 : Hid _ := ownsRow_setCell_other hrowO (a := ⟨g, q, none⟩) (by simp [Value.ownBlock]; omega) (.string x)
                        have HB3 : Hid _ := hbq.setCell (p := ⟨g, q, none⟩) hgW (.string x)
                        have hlt' : (q : Int) < (ns.length : Int) := by omega
                        have hlt3 : (q : Int) < (ns.length : Int) + 2 := by omega
                        clear hx hy hrl hrow hrowO hbq
                        go_wp2
                        go_roundw
                        case rel => exact ⟨q + 1, rs.set q x, by go_num, by omega, HR3.out, HO3.out, HB3.out, HX.out⟩
                        case measure => simp [intOf]; omega
                      · obtain rfl : q = ns.length := by omega
                        have hend : rs.take ns.length = os := by rw [HQ.out, List.take_of_length_le (by rw [HOL.out]; exact Nat.le_refl _)]
                        have HEND : Hid _ := hend
                        have HR4 : Hid _ := hrow
                        have HO4 : Hid _ := hrowO
                        have HB4 : Hid _ := hbq
                        clear hend hrow hrowO hbq hlt hq
                        go_wp2_with fail
                        refine (refJoinIs HJ2.out (some ⟨go, 0, none⟩) _ co HOL.out _ (lst_of_row HO4.out) hm).mono ?_
                        rintro e w5 ⟨rfl, hb5⟩
                        have HB5 : Hid (Below w.heap.size w w5) := trans2 HB4.out hb5
                        have HR5 : Hid (w5.ownsRow W.heap.size 9 1 (.slice (some ⟨g, 0, none⟩) (ns.length + 2) cap) (ns.length + 2) (rs.map Value.string)) := row_below HR4.out hb5
                        clear hb5
                        go_wp2_with fail
                        refine (joinIs HJ2.out (some ⟨g, 0, none⟩) _ cap HOL.out w5 (HG.out.below HB5.out) (by have := lst_takes (lst_of_row HR5.out) ns.length; rwa [HEND.out] at this) (fun h => by cases h) hm).mono ?_
                        rintro e w6 ⟨rfl, hb6⟩
                        have HB6 : Hid (Below w.heap.size w w6) := trans2 HB5.out hb6
                        have HR6 : Hid (w6.ownsRow W.heap.size 9 1 (.slice (some ⟨g, 0, none⟩) (ns.length + 2) cap) (ns.length + 2) (rs.map Value.string)) := row_below HR5.out hb6
                        clear hb6
                        go_wp2_with (first | (go_at_call 12; refine (num_any _ _).mono ?_; rintro e w7 ⟨rfl, rfl⟩) | fail)
                        go_roundw
                        case rel => exact ⟨2, rs, by go_num, by omega, HR6.out, HB6.out⟩
                        case measure => simp [intOf]
                  · have h1 : (0 : Int) < (ns.length : Int) := by omega
                    obtain ⟨y0, hy0⟩ : ∃ y, done[0]? = some y := ⟨done[0]'(by omega), List.getElem?_eq_getElem _⟩
                    have hc0 := row_cell (hown.alloc (.cells #[.int .u8 50] 5)) hy0
                    have hconv : (convert 34 9 (.slice (some ⟨wr.heap.size, 0, none⟩) 1 1)).run Tryd.prog (wr.alloc (.cells #[.int .u8 50] 5)) = .ok (.string ⟨#[50]⟩) (wr.alloc (.cells #[.int .u8 50] 5)) := conv_one wr 50
                    have hf0 := (hown.alloc (.cells #[.int .u8 50] 5)).frozenAt 0
                    have HR0 : Hid _ := ownsRow_setCell_other (hrow0.alloc (.cells #[.int .u8 50] 5)) (a := ⟨go, 0, none⟩) (by simp [Value.ownBlock]; omega) (.string ⟨#[113, 50]⟩)
                    have HO0 : Hid _ := row_set (k := 0) ⟨#[113, 50]⟩ (hown.alloc (.cells #[.int .u8 50] 5))
                    have HB0 : Hid _ := (hb0.alloc hb0.size (.cells #[.int .u8 50] 5)).setCell (p := ⟨go, 0, none⟩) (Nat.le_trans HBT.out.size hgo1) (.string ⟨#[113, 50]⟩)
                    have HOL : Hid ((done.set 0 ⟨#[113, 50]⟩).length = ns.length) := by show _ = _; rw [List.length_set]; exact hol
                    clear hrow0 hown hb0 hol hos HD hdl hbel hbs hq hlt hy0
                    obtain ⟨os, hos2⟩ : ∃ os, os = done.set 0 ⟨#[113, 50]⟩ := ⟨_, rfl⟩
                    rw [← hos2] at HO0 HOL
                    go_wp2
                    obtain ⟨F2, U2, hj2⟩ : ∃ F2 U2, join base os = (F2, U2) := ⟨_, _, rfl⟩
                    have HJ2 : Hid _ := hj2
                    clear hj2
                    go_loopw [15] (fun i wr => ∃ (q : Nat) (rs : List ByteArray), i = .int .i64 q ∧ q ≤ ns.length ∧ wr.ownsRow W.heap.size 9 1 (.slice (some ⟨g, 0, none⟩) (ns.length + 2) cap) (ns.length + 2) (rs.map Value.string) ∧ wr.ownsRow WT.heap.size 9 1 (.slice (some ⟨go, 0, none⟩) ns.length co) ns.length (os.map Value.string) ∧ Below w.heap.size w wr ∧ Hid (rs.take q = os.take q)) (fun i _ => ns.length - (intOf i).toNat)
                    case atStart => exact ⟨0, rs, rfl, Nat.zero_le _, HR0.out, HO0.out, HB0.out, rfl⟩
                    case round =>
                      obtain ⟨q, rs, rfl, hq, hrow, hrowO, hbq, HQ⟩ := hrel
                      by_cases hlt : q < ns.length
                      · obtain ⟨x, hx⟩ : ∃ x, os[q]? = some x := ⟨os[q]'(by rw [HOL.out]; exact hlt), List.getElem?_eq_getElem _⟩
                        have hcell := row_cell hrowO hx
                        have hrl : rs.length = ns.length + 2 := by simpa using hrow.1
                        obtain ⟨y, hy⟩ : ∃ y, rs[q]? = some y := ⟨rs[q]'(by omega), List.getElem?_eq_getElem _⟩
                        have hcell2 := row_cell hrow hy
                        have hfz := hrow.frozenAt q
                        have HX : Hid _ := take_set_step HQ.out hx (by omega)
                        have HR3 : Hid _ := row_set (k := q) x hrow
                        have HO3 : Hid _ := ownsRow_setCell_other hrowO (a := ⟨g, q, none⟩) (by simp [Value.ownBlock]; omega) (.string x)
                        have HB3 : Hid _ := hbq.setCell (p := ⟨g, q, none⟩) hgW (.string x)
                        have hlt' : (q : Int) < (ns.length : Int) := by omega
                        have hlt3 : (q : Int) < (ns.length : Int) + 2 := by omega
                        clear hx hy hrl hrow hrowO hbq
                        go_wp2
                        go_roundw
                        case rel => exact ⟨q + 1, rs.set q x, by go_num, by omega, HR3.out, HO3.out, HB3.out, HX.out⟩
                        case measure => simp [intOf]; omega
                      · obtain rfl : q = ns.length := by omega
                        have hend : rs.take ns.length = os := by rw [HQ.out, List.take_of_length_le (by rw [HOL.out]; exact Nat.le_refl _)]
                        have HEND : Hid _ := hend
                        have HR4 : Hid _ := hrow
                        have HO4 : Hid _ := hrowO
                        have HB4 : Hid _ := hbq
                        clear hend hrow hrowO hbq hlt hq
                        go_wp2_with fail
                        refine (refJoinIs HJ2.out (some ⟨go, 0, none⟩) _ co HOL.out _ (lst_of_row HO4.out) hm).mono ?_
                        rintro e w5 ⟨rfl, hb5⟩
                        have HB5 : Hid (Below w.heap.size w w5) := trans2 HB4.out hb5
                        have HR5 : Hid (w5.ownsRow W.heap.size 9 1 (.slice (some ⟨g, 0, none⟩) (ns.length + 2) cap) (ns.length + 2) (rs.map Value.string)) := row_below HR4.out hb5
                        clear hb5
                        go_wp2_with fail
                        refine (joinIs HJ2.out (some ⟨g, 0, none⟩) _ cap HOL.out w5 (HG.out.below HB5.out) (by have := lst_takes (lst_of_row HR5.out) ns.length; rwa [HEND.out] at this) (fun h => by cases h) hm).mono ?_
                        rintro e w6 ⟨rfl, hb6⟩
                        have HB6 : Hid (Below w.heap.size w w6) := trans2 HB5.out hb6
                        have HR6 : Hid (w6.ownsRow W.heap.size 9 1 (.slice (some ⟨g, 0, none⟩) (ns.length + 2) cap) (ns.length + 2) (rs.map Value.string)) := row_below HR5.out hb6
                        clear hb6
                        go_wp2_with (first | (go_at_call 12; refine (num_any _ _).mono ?_; rintro e w7 ⟨rfl, rfl⟩) | fail)
                        go_roundw
                        case rel => exact ⟨3, rs, by go_num, by omega, HR6.out, HB6.out⟩
                        case measure => simp [intOf]
            · have hex : 3 ≤ k ∨ ns.length = 0 := by omega
              by_cases hk : k < 3
              · have h0 : ¬ (0 : Int) < (ns.length : Int) := by omega
                have hk' : (k : Int) < 3 := by omega
                clear hex hgo
                go_wp2_with (first | (go_at_call 7; refine (known_any _ (HG.out.below HBT.out)).mono ?_; rintro e w8 ⟨rfl, hb8⟩; have HB8 : Hid _ := hb8; clear hb8))
                go_ret
                exact ⟨rfl, trans2 HBT.out HB8.out⟩
              · have hk' : ¬ (k : Int) < 3 := by omega
                clear hex hgo
                go_wp2_with (first | (go_at_call 7; refine (known_any _ (HG.out.below HBT.out)).mono ?_; rintro e w8 ⟨rfl, hb8⟩; have HB8 : Hid _ := hb8; clear hb8))
                go_ret
                exact ⟨rfl, trans2 HBT.out HB8.out⟩
end Go.Proofs.YtblhenblibdjoacDoor
