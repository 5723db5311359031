import Derived.Test.YtbamkdohaofgdaaGreatDoorParse
import Derived.Maps.AppendAt
import Derived.Test.YtbamkdohaofgdaaGreatDoorNames
import Derived.Test.YtbamkdohaofgdaaGreatDoorOf
import Derived.Test.YtbamkdohaofgdaaGreatDoorCovers
import Derived.Test.YtbamkdohaofgdaaGreatDoorRows
import Derived.Test.YtbamkdohaofgdaaGreatDoorLine
import Derived.Below
import Derived.Laws.AppendOwnNone
import Derived.Deep.QuietTactic
import Derived.Deep.AppendLies
import Derived.Deep.RegionHeld3
import Derived.Deep.Cut
import Derived.Deep.DeepFit
import Derived.Deep.MidRow
import Derived.Deep.RegionLaw
import Derived.Deep.DrawnRows
import Derived.BigQuiet
import Derived.WalkKit
import Derived.WalkMore
import Derived.OneCell
import Derived.Laws.Rows
namespace Go.Proofs.YtbamkdohaofgdaaGreatDoor
open Go.RowKit

/-- No slash from f up to k. -/
def Clear (s : ByteArray) (f k : Nat) : Prop := ∀ b ∈ (s.data.toList.drop f).take (k - f), b ≠ 47

theorem Clear.self (s : ByteArray) (f : Nat) : Clear s f f := by
  intro b hb
  rw [Nat.sub_self] at hb
  simp at hb
theorem Clear.step {s : ByteArray} {f k : Nat} (h : Clear s f k) (hf : f ≤ k) (hk : k < s.size) (hb : s[k] ≠ 47) : Clear s f (k + 1) := by
  intro b hm
  have e : k + 1 - f = (k - f) + 1 := by omega
  have hlen : k - f < (s.data.toList.drop f).length := by
    rw [List.length_drop]
    have : s.data.toList.length = s.size := by simp
    omega
  rw [e, List.take_succ_eq_append_getElem hlen, List.mem_append] at hm
  rcases hm with hm | hm
  · exact h b hm
  · rw [List.mem_singleton, List.getElem_drop] at hm
    have e2 : f + (k - f) = k := by omega
    simp only [e2] at hm
    rw [hm]
    exact hb

theorem data_extract (s : ByteArray) (f k : Nat) : (s.extract f k).data.toList = (s.data.toList.drop f).take (k - f) := by
  rw [Lib.extract_data]

theorem cut_at {s : ByteArray} {f k : Nat} (h : Clear s f k) (hf : f ≤ k) (hk : k < s.size) (hb : s[k] = 47) :
    cutL (s.data.toList.drop f) = (s.extract f k).data.toList :: cutL (s.data.toList.drop (k + 1)) := by
  have hl : k < s.data.toList.length := by simpa using hk
  have e : s.data.toList.drop f = (s.data.toList.drop f).take (k - f) ++ 47 :: s.data.toList.drop (k + 1) := by
    have e1 := (List.take_append_drop (k - f) (s.data.toList.drop f)).symm
    rw [List.drop_drop, show f + (k - f) = k by omega, List.drop_eq_getElem_cons hl] at e1
    have e2 : s.data.toList[k] = 47 := hb
    rw [e2] at e1
    exact e1
  rw [data_extract]
  conv => lhs; rw [e]
  exact cutL_pre _ _ h
theorem cut_end {s : ByteArray} {f : Nat} (h : Clear s f s.size) : cutL (s.data.toList.drop f) = [(s.extract f s.size).data.toList] := by
  have e : (s.data.toList.drop f).take (s.size - f) = s.data.toList.drop f := List.take_of_length_le (by simp)
  rw [data_extract, e]
  unfold Clear at h
  rw [e] at h
  exact cutL_all _ h

/-- What the loop has gathered at k. -/
def Gathered (s : ByteArray) (k f : Nat) (done : List ByteArray) : Prop :=
  (k ≤ s.size ∧ 1 ≤ f ∧ f ≤ k ∧ Clear s f k ∧ done.map (·.data.toList) ++ cutL (s.data.toList.drop f) = cutL (s.data.toList.drop 1)) ∨
  (k = s.size + 1 ∧ done.map (·.data.toList) = cutL (s.data.toList.drop 1))

theorem gathered_len {s : ByteArray} {k f : Nat} {done : List ByteArray} (h : Gathered s k f done) : done.length ≤ s.size + 1 := by
  have hl : (cutL (s.data.toList.drop 1)).length ≤ s.size + 1 := by
    rw [cutL_length]
    have h1 := List.count_le_length (a := 47) (l := s.data.toList.drop 1)
    have h2 : s.data.toList.length = s.size := by simp
    rw [List.length_drop] at h1
    omega
  rcases h with ⟨_, _, _, _, h⟩ | ⟨_, h⟩
  · have := congrArg List.length h
    simp only [List.length_append, List.length_map] at this
    omega
  · have := congrArg List.length h
    simp only [List.length_map] at this
    omega
theorem gathered_cut {s : ByteArray} {k f : Nat} {done : List ByteArray} (h : Gathered s k f done) (hk : k < s.size) (hb : s[k] = 47) : Gathered s (k + 1) (k + 1) (done ++ [s.extract f k]) := by
  rcases h with ⟨h1, h2, h3, h4, h5⟩ | ⟨h1, _⟩
  · refine .inl ⟨by omega, by omega, Nat.le_refl _, Clear.self _ _, ?_⟩
    rw [← h5, cut_at h4 h3 hk hb]
    simp
  · omega
theorem gathered_on {s : ByteArray} {k f : Nat} {done : List ByteArray} (h : Gathered s k f done) (hk : k < s.size) (hb : s[k] ≠ 47) : Gathered s (k + 1) f done := by
  rcases h with ⟨h1, h2, h3, h4, h5⟩ | ⟨h1, _⟩
  · exact .inl ⟨by omega, h2, by omega, h4.step h3 hk hb, h5⟩
  · omega
theorem gathered_end {s : ByteArray} {f : Nat} {done : List ByteArray} (h : Gathered s s.size f done) : Gathered s (s.size + 1) (s.size + 1) (done ++ [s.extract f s.size]) := by
  rcases h with ⟨h1, h2, h3, h4, h5⟩ | ⟨h1, _⟩
  · refine .inr ⟨rfl, ?_⟩
    rw [← h5, cut_end h4]
    simp
  · omega
theorem gathered_all {s : ByteArray} {f : Nat} {done : List ByteArray} (h : Gathered s (s.size + 1) f done) : done = cutB (mk (s.data.toList.drop 1)) := by
  rcases h with ⟨h1, _⟩ | ⟨_, h⟩
  · omega
  · rw [cutB_mk, ← h, List.map_map]
    conv => lhs; rw [← List.map_id done]
    apply List.map_congr_left
    intro x _
    exact (mk_data x).symm

theorem Tryz.info9 : (Tryz.prog.info? 9).map (fun i => (i.zero, i.size, i.bytes)) = some (some (.string ByteArray.empty), 1, 16) := by kernel_rfl

theorem lst_of_owns {w : World} {base : Nat} {v : Value} {xs : List ByteArray} (h : w.ownsRow base 9 1 v xs.length (xs.map Value.string)) :
    ∃ a c, v = .slice a xs.length c ∧ Lst w a xs ∧ (xs.length ≤ c ∧ c ≤ maxLen) := by
  rcases h.2 with ⟨rfl, h0⟩ | ⟨g, cap, cur, rfl, hg, hb, hn, hc, hs, ht⟩
  · have : xs = [] := List.eq_nil_of_length_eq_zero h0
    subst this
    exact ⟨none, 0, rfl, .inl rfl, Nat.le_refl _, Nat.zero_le _⟩
  · refine ⟨some ⟨g, 0, none⟩, cap, rfl, .inr ⟨g, 0, rfl, lt_of_block' hb, fun j x hx => ?_⟩, hn, hc⟩
    have hj : j < xs.length := by
      rw [List.getElem?_eq_some_iff] at hx
      exact hx.1
    rw [Nat.zero_add, h.cellAt j (by omega)]
    simp [hx]

theorem rel_app {w wr w1 : World} {u v' : Value} {o : Obj} {done : List ByteArray} {x : ByteArray} (hown : wr.ownsRow w.heap.size 9 1 u done.length (done.map Value.string)) (hbel : Below w.heap.size w wr)
    (hown' : w1.ownsRow w.heap.size 9 1 v' (done.length + 1) (done.map Value.string ++ [.string x])) (hgrow : (wr.alloc o).grownBy w1 u.ownBlock) :
    w1.ownsRow w.heap.size 9 1 v' (done ++ [x]).length ((done ++ [x]).map Value.string) ∧ Below w.heap.size w w1 :=
  ⟨by simpa using hown', (hbel.alloc hbel.size o).grown hgrow (by have := hbel.size; simp; omega) (fun j hj => (hown.lt j hj).1)⟩

end Go.Proofs.YtbamkdohaofgdaaGreatDoor
namespace Go.Proofs.YtbamkdohaofgdaaGreatDoor
open Go.RowKit

theorem nameB_of {c : UInt8} {n : Nat} (h : c.toNat = n) : nameB c = (decide (97 ≤ n ∧ n ≤ 122) || decide (65 ≤ n ∧ n ≤ 90) || decide (48 ≤ n ∧ n ≤ 57) || decide (n = 95) || decide (n = 45) || decide (n = 46)) := by
  subst h; rfl

theorem nm_out {s : ByteArray} (h : (((s.size : Int) < 1 ∨ (16 : Int) < (s.size : Int)) ∨ (s.toList == [46]) = true) ∨ (s.toList == [46, 46]) = true) : isNm s = false := by
  rw [ByteArray.toList_eq] at h
  rcases h with ((h | h) | h) | h
  · have : s.size = 0 := by omega
    simp [isNm, this]
  · exact nm_long h
  · simp [isNm, h]
  · simp [isNm, h]

end Go.Proofs.YtbamkdohaofgdaaGreatDoor
namespace Go.Proofs.YtbamkdohaofgdaaGreatDoor
open Go.RowKit

/-- What Parse of the reference leaves. -/
def Parsed' (s : ByteArray) (w : World) (e : Ending) (w' : World) : Prop :=
  ∃ a c, e = .returned (.tuple #[.slice a (parse s).2.length c, .int .i64 (parse s).1]) ∧ Lst w' a (parse s).2 ∧ ((parse s).2.length ≤ c ∧ c ≤ maxLen) ∧ Below w.heap.size w w'

theorem none_of' {s : ByteArray} {w : World} {code : Int} (h : parse s = (code, [])) {w' : World} (hb : Below w.heap.size w w') {e : Ending} (he : e = .returned (.tuple #[.slice none 0 0, .int .i64 code])) : Parsed' s w e w' := by
  refine ⟨none, 0, ?_, ?_, ?_, hb⟩
  · rw [he, h]; rfl
  · rw [h]; exact .inl rfl
  · rw [h]; exact ⟨Nat.le_refl _, Nat.zero_le _⟩

end Go.Proofs.YtbamkdohaofgdaaGreatDoor
namespace Go.Proofs.YtbamkdohaofgdaaGreatDoor
open Go.RowKit

theorem flat_step {xs : List ByteArray} {k : Nat} {x : ByteArray} (hx : xs[k]? = some x) : mk (flatN (xs.take k)) ++ ⟨#[47]⟩ ++ x = mk (flatN (xs.take (k + 1))) := by
  have e : xs.take (k + 1) = xs.take k ++ [x] := by rw [List.take_add_one, hx]; rfl
  rw [e]
  have e1 : flatN (xs.take k ++ [x]) = flatN (xs.take k) ++ ([47] ++ x.data.toList) := by simp [flatN]
  rw [e1]
  have h1 : mk (flatN (xs.take k)) ++ ⟨#[47]⟩ = mk (flatN (xs.take k) ++ [47]) := ByteArray.mk_append_mk _ [47]
  have h2 : mk (flatN (xs.take k) ++ [47]) ++ x = mk (flatN (xs.take k) ++ [47] ++ x.data.toList) := by
    conv => lhs; rw [← mk_data x]
    exact ByteArray.mk_append_mk _ _
  rw [h1, h2, List.append_assoc]
theorem flat_take_le {xs : List ByteArray} (h : xs.all isNm = true) (k : Nat) (hN : xs.length ≤ 6) : (flatN (xs.take k)).length ≤ 102 := by
  have hall : (xs.take k).all isNm = true := by
    rw [List.all_eq_true] at h ⊢
    exact fun x hx => h x (List.mem_of_mem_take hx)
  have h1 := flat_len (xs.take k) hall
  have h2 : (xs.take k).length ≤ 6 := by rw [List.length_take]; omega
  omega
theorem nm_size {xs : List ByteArray} {k : Nat} {x : ByteArray} (h : xs.all isNm = true) (hx : xs[k]? = some x) : x.size ≤ 16 := by
  rw [List.all_eq_true] at h
  have := h x (List.mem_of_getElem? hx)
  simp only [isNm, Bool.and_eq_true, decide_eq_true_eq] at this
  exact this.1.1.1.2
theorem flat_nil {xs : List ByteArray} (h : (mk (flatN xs)).toList = []) : xs = [] := by
  rw [ByteArray.toList_eq, data_mk] at h
  cases xs with
  | nil => rfl
  | cons x r => simp [flatN] at h

theorem lst_take' {w : World} {b o : Nat} {xs : List ByteArray} (hlt : b < w.heap.size) (h : Strs w b o xs) (k : Nat) : Lst w (some ⟨b, o, none⟩) (xs.take k) := by
  refine .inr ⟨b, o, rfl, hlt, fun j x hx => h j x ?_⟩
  rw [List.getElem?_take] at hx
  split at hx
  · exact hx
  · cases hx
theorem all_take' {xs : List ByteArray} (h : xs.all isNm = true) (k : Nat) : (xs.take k).all isNm = true := by
  rw [List.all_eq_true] at h ⊢
  exact fun x hx => h x (List.mem_of_mem_take hx)

end Go.Proofs.YtbamkdohaofgdaaGreatDoor
namespace Go.Proofs.YtbamkdohaofgdaaGreatDoor
open Go.RowKit

end Go.Proofs.YtbamkdohaofgdaaGreatDoor
namespace Go.Proofs.YtbamkdohaofgdaaGreatDoor
open Go.RowKit

theorem bel_miss {xs ys : List ByteArray} {k : Nat} {x y : ByteArray} (hx : xs[k]? = some x) (hy : ys[k]? = some y) (h : (x.toList != y.toList) = true) : decide (Bel ys xs) = false := by
  rw [decide_eq_false_iff_not]
  rintro ⟨_, h2⟩
  have hk : k < ys.length := by
    rw [List.getElem?_eq_some_iff] at hy
    exact hy.1
  have h3 := congrArg (·[k]?) h2
  simp only [List.getElem?_take, if_pos hk, hx, hy, Option.some.injEq] at h3
  subst h3
  simp at h
theorem take_next {xs ys : List ByteArray} {k : Nat} {x y : ByteArray} (hx : xs[k]? = some x) (hy : ys[k]? = some y) (h : (x.toList != y.toList) = false) (ht : xs.take k = ys.take k) : xs.take (k + 1) = ys.take (k + 1) := by
  have e : x = y := by
    have h1 : x.toList = y.toList := by simpa [bne] using h
    rw [ByteArray.toList_eq, ByteArray.toList_eq] at h1
    rw [← mk_data x, ← mk_data y, h1]
  rw [List.take_add_one, List.take_add_one, hx, hy, ht, e]

theorem child_bel {watched changed : ByteArray} {ws cs : List ByteArray} (hu : parse watched = (0, ws)) (hl : parse changed = (0, cs)) (h : childB watched changed = true) : Bel ws cs := by
  simp only [childB, hl, Bool.and_eq_true] at h
  obtain ⟨⟨_, h2⟩, h3⟩ := h
  have hne : cs ≠ [] := by intro e; rw [e] at h2; simp at h2
  have hlen : 1 ≤ cs.length := by
    cases cs with
    | nil => exact absurd rfl hne
    | cons c r => simp
  have hc := parse_len hl
  have e : placeB (cs.take (cs.length - 1)) = watched := by
    have h4 := beq_iff_eq.1 h3
    rw [ByteArray.toList_eq, ByteArray.toList_eq] at h4
    rw [← mk_data (placeB (cs.take (cs.length - 1))), h4, mk_data]
  have hp := parse_place (xs := cs.take (cs.length - 1)) (by rw [List.length_take]; omega) (all_take hc.2 _)
  rw [e, hu] at hp
  have hws : ws = cs.take (cs.length - 1) := by cases hp; rfl
  have hwl : ws.length = cs.length - 1 := by rw [hws, List.length_take]; omega
  exact ⟨by omega, by rw [hwl, ← hws]⟩

end Go.Proofs.YtbamkdohaofgdaaGreatDoor
namespace Go.Proofs.YtbamkdohaofgdaaGreatDoor
open Go.RowKit

theorem lt_of_blk {w : World} {b : Nat} {o : Obj} (h : w.heap[b]? = some o) : b < w.heap.size := (Array.getElem?_eq_some_iff.1 h).1
theorem addr_add (b o j : Nat) : (⟨b, o, none⟩ : Addr).add j = ⟨b, o + j, none⟩ := by unfold Addr.add; split <;> simp_all
theorem below_drew {B : Nat} {w W : World} (h : Below B w W) : Below B w W.drew := ⟨h.os, h.tape, h.output, h.size, h.block⟩
theorem of_drew {W w1 : World} (h : Below W.drew.heap.size W.drew w1) : Below W.heap.size W w1 := ⟨h.os, h.tape, h.output, h.size, h.block⟩
theorem below_drewN {B : Nat} {a w : World} (h : Below B a w) (n : Nat) : Below B a (w.drewN n) := ⟨h.os, h.tape, h.output, h.size, h.block⟩
theorem cell_n {w : World} {B e s n g cap k : Nat} {xs : List Value} {x : Value} (h : w.ownsRow B e s (.slice (some ⟨g, 0, none⟩) n cap) n xs) (hx : xs[k]? = some x) : w.cell? ⟨g, k, none⟩ = some x := by
  have hk : k < xs.length := (List.getElem?_eq_some_iff.1 hx).1
  rcases h.2 with ⟨h0, _⟩ | ⟨g', cap', cur, hv, _, hg, _, _, hsz, ht⟩
  · cases h0
  · cases hv
    have hkc : k < n * s := by have := h.1; omega
    have : cur[k]? = some x := by
      rw [← hx, ← ht, List.getElem?_take_of_lt hkc, Array.getElem?_toList]
    unfold World.cell?
    simp only [hg]
    exact this

theorem other_blk {w : World} {g b i : Nat} {v : Value} {o : Obj} (h : w.heap[b]? = some o) (hne : b ≠ g) : (w.setCell ⟨g, i, none⟩ v).heap[b]? = some o := by
  rw [Below.heap_setCell w ⟨g, i, none⟩ v b hne]; exact h
theorem same_blk {w : World} {g i : Nat} {cs cs' : Array Value} {t : TypeId} {v : Value} (h : w.heap[g]? = some (.cells cs t (0, 0))) (he : cs.setIfInBounds i v = cs') : (w.setCell ⟨g, i, none⟩ v).heap[g]? = some (.cells cs' t (0, 0)) := by
  rw [← he]; exact heap_setCell_same w g i cs t v h
abbrev put_1 (w : World) (g : Nat) (x0 : Value) : World := (w.setCell ⟨g, 0, none⟩ x0)
theorem fill_1 {w : World} {g : Nat} {t : TypeId} {x0 y0 : Value} (h : w.heap[g]? = some (.cells #[y0] t (0, 0))) : (put_1 w g x0).heap[g]? = some (.cells #[x0] t (0, 0)) := by
  have h0 := same_blk (i := 0) (v := x0) (cs' := #[x0]) h rfl
  exact h0
theorem fillB_1 {B : Nat} {w0 w : World} {g : Nat} {x0 : Value} (h : Below B w0 w) (hg : B ≤ g) : Below B w0 (put_1 w g x0) := (h.setCell hg _)
theorem fillO_1 {w : World} {g b : Nat} {o : Obj} {x0 : Value} (h : w.heap[b]? = some o) (hne : b ≠ g) : (put_1 w g x0).heap[b]? = some o := (other_blk h hne)
abbrev put_3 (w : World) (g : Nat) (x0 x1 x2 : Value) : World := (((w.setCell ⟨g, 0, none⟩ x0).setCell ⟨g, 1, none⟩ x1).setCell ⟨g, 2, none⟩ x2)
theorem fill_3 {w : World} {g : Nat} {t : TypeId} {x0 x1 x2 y0 y1 y2 : Value} (h : w.heap[g]? = some (.cells #[y0, y1, y2] t (0, 0))) : (put_3 w g x0 x1 x2).heap[g]? = some (.cells #[x0, x1, x2] t (0, 0)) := by
  have h0 := same_blk (i := 0) (v := x0) (cs' := #[x0, y1, y2]) h rfl
  have h1 := same_blk (i := 1) (v := x1) (cs' := #[x0, x1, y2]) h0 rfl
  have h2 := same_blk (i := 2) (v := x2) (cs' := #[x0, x1, x2]) h1 rfl
  exact h2
theorem fillB_3 {B : Nat} {w0 w : World} {g : Nat} {x0 x1 x2 : Value} (h : Below B w0 w) (hg : B ≤ g) : Below B w0 (put_3 w g x0 x1 x2) := (((h.setCell hg _).setCell hg _).setCell hg _)
theorem fillO_3 {w : World} {g b : Nat} {o : Obj} {x0 x1 x2 : Value} (h : w.heap[b]? = some o) (hne : b ≠ g) : (put_3 w g x0 x1 x2).heap[b]? = some o := (other_blk (other_blk (other_blk h hne) hne) hne)
abbrev put_4 (w : World) (g : Nat) (x0 x1 x2 x3 : Value) : World := ((((w.setCell ⟨g, 0, none⟩ x0).setCell ⟨g, 1, none⟩ x1).setCell ⟨g, 2, none⟩ x2).setCell ⟨g, 3, none⟩ x3)
theorem fill_4 {w : World} {g : Nat} {t : TypeId} {x0 x1 x2 x3 y0 y1 y2 y3 : Value} (h : w.heap[g]? = some (.cells #[y0, y1, y2, y3] t (0, 0))) : (put_4 w g x0 x1 x2 x3).heap[g]? = some (.cells #[x0, x1, x2, x3] t (0, 0)) := by
  have h0 := same_blk (i := 0) (v := x0) (cs' := #[x0, y1, y2, y3]) h rfl
  have h1 := same_blk (i := 1) (v := x1) (cs' := #[x0, x1, y2, y3]) h0 rfl
  have h2 := same_blk (i := 2) (v := x2) (cs' := #[x0, x1, x2, y3]) h1 rfl
  have h3 := same_blk (i := 3) (v := x3) (cs' := #[x0, x1, x2, x3]) h2 rfl
  exact h3
theorem fillB_4 {B : Nat} {w0 w : World} {g : Nat} {x0 x1 x2 x3 : Value} (h : Below B w0 w) (hg : B ≤ g) : Below B w0 (put_4 w g x0 x1 x2 x3) := ((((h.setCell hg _).setCell hg _).setCell hg _).setCell hg _)
theorem fillO_4 {w : World} {g b : Nat} {o : Obj} {x0 x1 x2 x3 : Value} (h : w.heap[b]? = some o) (hne : b ≠ g) : (put_4 w g x0 x1 x2 x3).heap[b]? = some o := (other_blk (other_blk (other_blk (other_blk h hne) hne) hne) hne)
theorem cellO_1 {w : World} {g b i j : Nat} {v x : Value} (h : w.cell? ⟨b, i, none⟩ = some v) (hne : b ≠ g) : (w.setCell ⟨g, j, none⟩ x).cell? ⟨b, i, none⟩ = some v := by
  rw [World.cell?_of_block (w := w) (Below.heap_setCell w ⟨g, j, none⟩ x b hne)]; exact h
theorem cellO_4 {w : World} {g b i : Nat} {v x0 x1 x2 x3 : Value} (h : w.cell? ⟨b, i, none⟩ = some v) (hne : b ≠ g) : (put_4 w g x0 x1 x2 x3).cell? ⟨b, i, none⟩ = some v := (cellO_1 (cellO_1 (cellO_1 (cellO_1 h hne) hne) hne) hne)
theorem new_old {w : World} {b : Nat} {o : Obj} (h : w.heap[b]? = some o) (o' : Obj) : (w.alloc o').heap[b]? = some o := by
  rw [Below.heap_alloc w o' b (Array.getElem?_eq_some_iff.1 h).1]; exact h
theorem cells_1 {W : World} {b : Nat} {t : TypeId} {x0 : Value} (h : W.heap[b]? = some (.cells #[x0] t (0, 0))) : W.cell? ⟨b, 0, none⟩ = some x0 := by
  simp [World.cell?, h]
theorem free_1 {W : World} {b : Nat} {t : TypeId} {x0 : Value} (h : W.heap[b]? = some (.cells #[x0] t (0, 0))) (o : Nat) : W.frozen? ⟨b, o, none⟩ = false := by
  simp [World.frozen?, h]
theorem cells_4 {W : World} {b : Nat} {t : TypeId} {x0 x1 x2 x3 : Value} (h : W.heap[b]? = some (.cells #[x0, x1, x2, x3] t (0, 0))) : W.cell? ⟨b, 0, none⟩ = some x0 ∧ W.cell? ⟨b, 1, none⟩ = some x1 ∧ W.cell? ⟨b, 2, none⟩ = some x2 ∧ W.cell? ⟨b, 3, none⟩ = some x3 := by
  simp [World.cell?, h]
theorem free_4 {W : World} {b : Nat} {t : TypeId} {x0 x1 x2 x3 : Value} (h : W.heap[b]? = some (.cells #[x0, x1, x2, x3] t (0, 0))) (o : Nat) : W.frozen? ⟨b, o, none⟩ = false := by
  simp [World.frozen?, h]
theorem owns_same {w w' : World} {B e s n : Nat} {v : Value} {xs : List Value} (h : w.ownsRow B e s v n xs) (hk : ∀ k, v.ownBlock = some k → w'.heap[k]? = w.heap[k]?) : w'.ownsRow B e s v n xs := by
  refine ⟨h.1, ?_⟩
  rcases h.2 with h2 | ⟨g, cap, cur, hv, hB, hg, r⟩
  · exact .inl h2
  · exact .inr ⟨g, cap, cur, hv, hB, by rw [hk g (by rw [hv]; rfl)]; exact hg, r⟩
theorem owns_kind {w : World} {B e s n k : Nat} {v : Value} {xs : List Value} (h : w.ownsRow B e s v n xs) (hk : v.ownBlock = some k) : ∃ cur, w.heap[k]? = some (.cells cur e (0, 0)) := by
  rcases h.2 with ⟨rfl, _⟩ | ⟨g, cap, cur, rfl, _, hg, _⟩
  · cases hk
  · simp only [Value.ownBlock, Option.some.injEq] at hk
    subst hk
    exact ⟨cur, hg⟩
theorem cellN {w : World} {g b i j : Nat} {x : Value} (hne : b ≠ g) : (w.setCell ⟨g, j, none⟩ x).cell? ⟨b, i, none⟩ = w.cell? ⟨b, i, none⟩ := by
  rw [World.cell?_of_block (w := w) (Below.heap_setCell w ⟨g, j, none⟩ x b hne)]
theorem owns_below {w w' : World} {B e s n : Nat} {v : Value} {xs : List Value} (h : w.ownsRow B e s v n xs) (hb : Below w.heap.size w w') : w'.ownsRow B e s v n xs := owns_same h (fun k hk => hb.block k (h.lt k hk).2)
theorem cells_3 {W : World} {b : Nat} {t : TypeId} {x0 x1 x2 : Value} (h : W.heap[b]? = some (.cells #[x0, x1, x2] t (0, 0))) : W.cell? ⟨b, 0, none⟩ = some x0 ∧ W.cell? ⟨b, 1, none⟩ = some x1 ∧ W.cell? ⟨b, 2, none⟩ = some x2 := by
  simp [World.cell?, h]
theorem kept_block {W w1 : World} {b : Nat} {o : Obj} (hb : Below W.heap.size W w1) (h : W.heap[b]? = some o) : w1.heap[b]? = some o := by
  rw [hb.block b (Array.getElem?_eq_some_iff.1 h).1]; exact h
theorem heap_new' {w : World} {o : Obj} {k : Nat} (h : w.heap.size = k) : (w.alloc o).heap[k]? = some o := by subst h; exact heap_alloc_new w o

/-- A node. -/
structure SeenT where
  p : ByteArray
  d : ByteArray
  v : Int
abbrev SeenT.cells (o : SeenT) : List Value := [.string o.p, .string o.d, .int .i64 o.v]
def seCs (l : List SeenT) : List Value := (l.map SeenT.cells).flatten
theorem seCs_append (l m : List SeenT) : seCs (l ++ m) = seCs l ++ seCs m := by simp [seCs]
theorem seCs_len (l : List SeenT) : (seCs l).length = l.length * 3 := by
  induction l with
  | nil => rfl
  | cons o os ih => simp [seCs] at *; omega
theorem seCs_at (os : List SeenT) (q j : Nat) (o : SeenT) (x : Value) (h : os[q]? = some o) (hx : o.cells[j]? = some x) (rest : List Value) : (seCs os ++ rest)[q * 3 + j]? = some x := by
  induction os generalizing q with
  | nil => cases h
  | cons a os ih =>
    have hj : j < 3 := (List.getElem?_eq_some_iff.1 hx).1
    cases q with
    | zero =>
      cases h
      show (o.cells ++ seCs os ++ rest)[0 * 3 + j]? = some x
      rw [Nat.zero_mul, Nat.zero_add, List.append_assoc, List.getElem?_append_left (by simpa using hj)]
      exact hx
    | succ q =>
      show (a.cells ++ seCs os ++ rest)[(q + 1) * 3 + j]? = some x
      rw [List.append_assoc, List.getElem?_append_right (by simp; omega)]
      rw [show (q + 1) * 3 + j - a.cells.length = q * 3 + j by simp; omega]
      exact ih q h
theorem seCs_one (l : List SeenT) : ∀ u ∈ seCs l, u.oneCell' = true := by
  intro u hu
  simp only [seCs, List.mem_flatten, List.mem_map] at hu
  obtain ⟨c, ⟨s, _, rfl⟩, hu⟩ := hu
  simp only [SeenT.cells, List.mem_cons, List.not_mem_nil, or_false] at hu
  rcases hu with rfl | rfl | rfl <;> rfl

/-- Nodes that lie in memory, wherever. -/
def Ss (w : World) (a : Option Addr) (l : List SeenT) : Prop :=
  l = [] ∨ ∃ b o, a = some ⟨b, o, none⟩ ∧ b < w.heap.size ∧ ∀ i s, l[i]? = some s → ∀ j x, s.cells[j]? = some x → w.cell? ⟨b, o + i * 3 + j, none⟩ = some x
theorem Ss.below {w w' : World} {a : Option Addr} {l : List SeenT} (h : Ss w a l) (hb : Below w.heap.size w w') : Ss w' a l := by
  rcases h with h | ⟨b, o, ha, hlt, hs⟩
  · exact .inl h
  · refine .inr ⟨b, o, ha, Nat.lt_of_lt_of_le hlt hb.size, fun i s hi j x hx => ?_⟩
    rw [hb.cell (p := ⟨b, o + i * 3 + j, none⟩) hlt]
    exact hs i s hi j x hx
theorem Ss.at {w : World} {a : Option Addr} {l : List SeenT} (h : Ss w a l) {i : Nat} {s : SeenT} (hi : l[i]? = some s) : ∃ b o, a = some ⟨b, o, none⟩ ∧ b < w.heap.size ∧ w.cell? ⟨b, o + i * 3, none⟩ = some (.string s.p) ∧ w.cell? ⟨b, o + i * 3 + 1, none⟩ = some (.string s.d) ∧ w.cell? ⟨b, o + i * 3 + 2, none⟩ = some (.int .i64 s.v) := by
  rcases h with rfl | ⟨b, o, ha, hlt, hs⟩
  · cases hi
  · exact ⟨b, o, ha, hlt, hs i s hi 0 _ rfl, hs i s hi 1 _ rfl, hs i s hi 2 _ rfl⟩
theorem ss_of_owns {w : World} {base n cap : Nat} {g : Nat} {l : List SeenT} {rest : List Value} (h : w.ownsRow base 52 3 (.slice (some ⟨g, 0, none⟩) n cap) n (seCs l ++ rest)) : Ss w (some ⟨g, 0, none⟩) l := by
  refine .inr ⟨g, 0, rfl, (h.lt g rfl).2, fun i s hi j x hx => ?_⟩
  rw [Nat.zero_add]
  exact cell_n h (seCs_at l i j s x hi hx rest)
theorem ss_news {w : World} {ad : Addr} {l : List SeenT} (h : Ss w (some ad) l) : ∀ j u, (seCs l)[j]? = some u → w.cell? (ad.add j) = some u := by
  intro j u hj
  rcases h with rfl | ⟨b, o, ha, _, hs⟩
  · simp [seCs] at hj
  · have hab : ad = ⟨b, o, none⟩ := Option.some.inj ha
    subst hab
    have hjl : j < l.length * 3 := by rw [← seCs_len]; exact (List.getElem?_eq_some_iff.1 hj).1
    have hq : j / 3 < l.length := by omega
    obtain ⟨s, hs'⟩ : ∃ s, l[j / 3]? = some s := ⟨l[j / 3], List.getElem?_eq_getElem hq⟩
    obtain ⟨x, hx⟩ : ∃ x, s.cells[j % 3]? = some x := ⟨s.cells[j % 3]'(by simp; omega), List.getElem?_eq_getElem _⟩
    have h1 := seCs_at l (j / 3) (j % 3) s x hs' hx []
    rw [List.append_nil, show j / 3 * 3 + j % 3 = j by omega, hj] at h1
    have h2 := hs (j / 3) s hs' (j % 3) x hx
    rw [addr_add, h1, ← h2]
    congr 2
    omega

/-- A shot by value. -/
structure ShT where
  st : Int
  p : ByteArray
  k : Int
  a : Option Addr
  c : Nat
  l : List SeenT
abbrev ShT.val (s : ShT) : Value := .agg #[.int .i64 s.st, .string s.p, .int .i64 s.k, .slice s.a s.l.length s.c]

theorem take_snoc {l : List SeenT} {q : Nat} {o : SeenT} (h : l[q]? = some o) : l.take (q + 1) = l.take q ++ [o] := by rw [List.take_add_one, h]; rfl
theorem same_part {xs ys : List SeenT} {k : Nat} {x y : SeenT} (hx : xs[k]? = some x) (hy : ys[k]? = some y) (h : x ≠ y) : xs ≠ ys := by
  intro e
  subst e
  rw [hx] at hy
  exact h (Option.some.inj hy)
theorem same_step {xs ys : List SeenT} {k : Nat} {x : SeenT} (hx : xs[k]? = some x) (hy : ys[k]? = some x) (h : xs.take k = ys.take k) : xs.take (k + 1) = ys.take (k + 1) := by
  rw [take_snoc hx, take_snoc hy, h]
theorem small_any (s : ShT) (w : World) :
    Calls Tryz.prog 5 #[s.val] w fun e w' => e = .returned (.bool (decide ((s.l.length : Int) ≤ 70))) ∧ Below w.heap.size w w' := by
  go_enter Tryz.func5, Tryz.ntmps5
  go_wp2_with fail
  go_ret
  exact ⟨rfl, (Below.refl _ _).alloc (Nat.le_refl _) _⟩
end Go.Proofs.YtbamkdohaofgdaaGreatDoor
