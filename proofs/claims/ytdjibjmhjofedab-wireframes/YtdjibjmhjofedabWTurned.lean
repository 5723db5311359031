/-
  untouched, turned.
-/
import Derived.Test.YtdjibjmhjofedabWRoomy
namespace Go.Proofs.Ytdjibjmhjofedab
open Go.RowKit

set_option maxHeartbeats 1600000 in
set_option maxRecDepth 100000 in
theorem untouched_any (base g cap : Nat) (xs : List Int) (b : Option Addr) (d : Nat) (w : World) (hr : Room w base g cap xs) (hx : Bys w b xs) (hm : xs.length ≤ 1000000) :
    Calls Try.prog 26 #[.slice (some ⟨g, 0, none⟩) xs.length cap, .slice b xs.length d] w fun e w' => e = .returned (.bool true) ∧ Below w.heap.size w w' := by
  have hcap := hr.cap
  have h1 := hr.cell xs.length 167 (by simp)
  have h2 := hr.cell (xs.length + 1) 94 (by rw [List.getElem?_append_right (by omega)]; simp)
  have HS : Hid _ := same_is (c := cap) (d := d) hr.bys hx (by unfold maxLen; omega)
  have hcap' : (xs.length : Int) + 2 ≤ (cap : Int) := by omega
  obtain ⟨hc1, hc2⟩ := hcap
  unfold maxLen at hc2
  clear hr hx
  go_enter Try.func26, Try.ntmps26
  go_wp2_with (first
    | (go_at_call 12; refine Calls.mono HS.out ?_; rw [decide_eq_true rfl]; rintro e w4 ⟨rfl, hb4⟩; have HB4 : Hid _ := hb4; rw [← hb4.cell (p := ⟨g, xs.length, none⟩) (World.block_lt_of_cell? _ _ h1)] at h1; rw [← hb4.cell (p := ⟨g, xs.length + 1, none⟩) (World.block_lt_of_cell? _ _ h2)] at h2; clear hb4)
    | fail)
  go_ret
  exact ⟨rfl, HB4.out⟩

/-- The byte at a place, turned. -/
def tb (i : Nat) (x : Int) : Int := ((x.toNat ^^^ (1 + i % 7) : Nat) : Int)
def turnL (xs : List Int) : List Int := xs.mapIdx tb
theorem turnL_len (xs : List Int) : (turnL xs).length = xs.length := by simp [turnL]
theorem turnL_at {xs : List Int} {k : Nat} {x : Int} (h : xs[k]? = some x) : (turnL xs)[k]? = some (tb k x) := by simp [turnL, h]
theorem tb_byt (i : Nat) {x : Int} (h : 0 ≤ x ∧ x < 256) : 0 ≤ tb i x ∧ tb i x < 256 := by
  have : x.toNat ^^^ (1 + i % 7) < 2 ^ 8 := Nat.xor_lt_two_pow (by omega) (by omega)
  unfold tb
  omega
theorem turnL_byt {xs : List Int} (h : Byt xs) : Byt (turnL xs) := by
  intro z hz
  obtain ⟨k, hk⟩ := List.getElem?_of_mem hz
  have hl : k < xs.length := by have := (List.getElem?_eq_some_iff.1 hk).1; rwa [turnL_len] at this
  obtain ⟨x, hx⟩ : ∃ x, xs[k]? = some x := ⟨xs[k], List.getElem?_eq_getElem hl⟩
  rw [turnL_at hx] at hk
  obtain rfl := Option.some.inj hk
  exact tb_byt k (h.at hx)
/-- As far as this. -/
def turnTo (k : Nat) (xs : List Int) : List Int := (turnL xs).take k ++ xs.drop k
theorem turnTo_len (k : Nat) (xs : List Int) : (turnTo k xs).length = xs.length := by
  unfold turnTo
  rw [List.length_append, List.length_take, List.length_drop, turnL_len]
  omega
theorem turnTo_zero (xs : List Int) : turnTo 0 xs = xs := by simp [turnTo]
theorem turnTo_all (xs : List Int) : turnTo xs.length xs = turnL xs := by
  unfold turnTo
  rw [List.drop_length, List.append_nil, ← turnL_len xs, List.take_length]
theorem turnTo_at {k : Nat} {xs : List Int} {x : Int} (h : xs[k]? = some x) : (turnTo k xs)[k]? = some x := by
  have hl : k < xs.length := (List.getElem?_eq_some_iff.1 h).1
  have e : ((turnL xs).take k).length = k := by rw [List.length_take, turnL_len]; omega
  unfold turnTo
  rw [List.getElem?_append_right (by omega), e, Nat.sub_self, List.getElem?_drop, Nat.add_zero]
  exact h
theorem turnTo_next {k : Nat} {xs : List Int} {x : Int} (h : xs[k]? = some x) : (turnTo k xs).set k (tb k x) = turnTo (k + 1) xs := by
  have hl : k < xs.length := (List.getElem?_eq_some_iff.1 h).1
  have e : ((turnL xs).take k).length = k := by rw [List.length_take, turnL_len]; omega
  unfold turnTo
  rw [List.set_append_right _ _ (by omega), e, Nat.sub_self, List.take_add_one, turnL_at h, List.append_assoc]
  have hd : xs.drop k = x :: xs.drop (k + 1) := by
    rw [List.drop_eq_getElem_cons hl]
    rw [List.getElem?_eq_getElem hl] at h
    rw [Option.some.inj h]
  rw [hd]
  rfl
theorem xor_tb (k : Nat) {x : Int} (h : 0 ≤ x ∧ x < 256) : bits .xor .u8 x (1 + (k : Int) % 7) = tb k x := by
  have e := u8_xor x (1 + (k : Int) % 7) h.1 h.2 (by omega) (by omega)
  rw [e]
  unfold tb
  congr 2

theorem Room.set {w : World} {base g cap k : Nat} {ys : List Int} {y : Int} (h : Room w base g cap ys) (hk : k < ys.length) : Room (w.setCell ⟨g, k, none⟩ (.int .u8 y)) base g cap (ys.set k y) ∧ w.grownBy (w.setCell ⟨g, k, none⟩ (.int .u8 y)) (some g) := by
  have s := World.ownsRow.stored h k (.int .u8 y)
  refine ⟨?_, s.2⟩
  unfold Room
  have e : bv (ys.set k y ++ [167, 94]) = (bv (ys ++ [167, 94])).set k (.int .u8 y) := by
    unfold bv
    rw [← List.map_set, List.set_append_left _ _ hk]
  rw [e, List.length_set]
  exact s.1
theorem grown_trans {w w1 w2 : World} {r : Option Nat} (h : w.grownBy w1 r) (k : w1.grownBy w2 r) : w.grownBy w2 r :=
  ⟨k.os.trans h.os, k.tape.trans h.tape, k.output.trans h.output, Nat.le_trans h.size k.size, fun i hi hn => (k.block i (Nat.lt_of_lt_of_le hi h.size) hn).trans (h.block i hi hn)⟩

set_option maxHeartbeats 1600000 in
set_option maxRecDepth 100000 in
theorem turned_law (base g cap : Nat) (xs : List Int) (w : World) (hr : Room w base g cap xs) (hb : Byt xs) (hm : xs.length ≤ 1000000) :
    Calls Try.prog 23 #[.slice (some ⟨g, 0, none⟩) xs.length cap] w fun e w' => ∃ a c, e = .returned (.slice a xs.length c) ∧
      w'.ownsRow w.heap.size 5 1 (.slice a xs.length c) xs.length (bv (turnL xs)) ∧ Room w' base g cap (turnL xs) ∧ w.grownBy w' (some g) := by
  obtain ⟨i0, hi, hz0, hz1, hz2⟩ := info_parts Try.info5
  have HR : Hid (Room w base g cap xs) := hr
  have HY : Hid (Byt xs) := hb
  clear hr hb
  go_enter Try.func23, Try.ntmps23
  go_wp2
  go_loopw [3] (fun i wr => ∃ k : Nat, i = .int .i64 k ∧ k ≤ xs.length ∧ Hid (Room wr base g cap (turnTo k xs)) ∧ Hid (w.grownBy wr (some g))) (fun i _ => xs.length - (intOf i).toNat)
  case atStart => exact ⟨0, rfl, by omega, by rw [turnTo_zero]; exact HR.out, ⟨rfl, rfl, rfl, Nat.le_refl _, fun _ _ _ => rfl⟩⟩
  case round =>
    obtain ⟨k, rfl, hk, HRk, HGk⟩ := hrel
    by_cases hlt : k < xs.length
    · obtain ⟨x, hx⟩ : ∃ x, xs[k]? = some x := ⟨xs[k], List.getElem?_eq_getElem hlt⟩
      have hlk : k < (turnTo k xs).length := by rw [turnTo_len]; exact hlt
      have hc := Room.cell HRk.out k x (by rw [List.getElem?_append_left hlk]; exact turnTo_at hx)
      have hf := Room.free HRk.out k
      have hxb := Byt.at HY.out hx
      have hxor := xor_tb k hxb
      have HSet : Hid _ := Room.set (k := k) (y := tb k x) HRk.out hlk
      rw [turnTo_next hx] at HSet
      generalize tb k x = y at hxor HSet
      clear hx
      go_wp2
      exact ⟨⟨k + 1, by go_num, by omega, HSet.out.1, grown_trans HGk.out HSet.out.2⟩, by simp [intOf]; omega⟩
    · obtain rfl : k = xs.length := by omega
      have hR : Room wr base g cap (turnL xs) := by have := HRk.out; rwa [turnTo_all] at this
      have HRe : Hid _ := hR
      have HBy : Hid (Bys wr (some ⟨g, 0, none⟩) (turnL xs)) := hR.bys
      have hsz := HGk.out.size
      have hcap := hR.cap
      rw [turnL_len] at hcap
      have hlt' := hR.lt
      clear hR HRk
      go_wp2_with (first
        | (at_builtin; refine wpList_append_own _ rfl _ _ 22 rfl w.heap.size 5 i0 (.int .u8 0) 1 1 Try.underlying22 hi hz0 hz1 hz2 rfl (by decide) (.slice none 0 0) 0 [] rfl (World.ownsRow_nil _ _ _ _) ⟨g, 0, none⟩ xs.length cap (bv (turnL xs)) rfl (by rw [bv_len, Nat.mul_one, turnL_len]) (cells_at HBy.out) (bv_one _) (by unfold maxLen; omega) (by omega) hsz ?_; intro v1 w1 hown1 hgrow1 _
           rw [Nat.zero_add, List.nil_append] at hown1
           obtain ⟨a1, c1, rfl, -⟩ := bys_of_owns hown1
           rw [turnL_len] at hown1 ⊢
           have HO1 : Hid (w1.ownsRow w.heap.size 5 1 (.slice a1 xs.length c1) xs.length (bv (turnL xs))) := hown1
           have HG1 : Hid (wr.grownBy w1 none) := hgrow1
           clear hown1 hgrow1)
        | go_in)
      go_ret
      refine ⟨a1, c1, rfl, HO1.out, ?_, ?_⟩
      · exact owns_same HRe.out fun k hk => HG1.out.block k (World.ownsRow.lt HRe.out k hk).2 (by simp)
      · exact grown_trans HGk.out ⟨HG1.out.os, HG1.out.tape, HG1.out.output, HG1.out.size, fun i hi _ => HG1.out.block i hi (by simp)⟩
end Go.Proofs.Ytdjibjmhjofedab
