/-
  heraldref1.Parent by a contract.
-/
import Derived.Test.YthelfbdkbldhjaaGreatDoorRefOf
import Derived.Test.YthelfbdkbldhjaaGreatDoorTOps
import Derived.Test.YthelfbdkbldhjaaGreatDoorLine
import Derived.Test.YthelfbdkbldhjaaGreatDoorTMake
import Derived.Test.YthelfbdkbldhjaaGreatDoorTOne
namespace Go.Proofs.YthelfbdkbldhjaaGreatDoor
open Go.RowKit

theorem refParent_err {s : ByteArray} {code : Int} (h : parse s = (code, [])) (hc : code ≠ 0) (w : World) :
    Calls Tryz.prog 68 #[.string s] w fun e w' => e = .returned (.tuple #[.string ⟨#[]⟩, .int .i64 code]) ∧ Below w.heap.size w w' := by
  have HP : Hid _ := refParse_none h
  have hc' : (code != 0) = true := by simpa using hc
  clear h
  go_enter Tryz.func68, Tryz.ntmps68
  go_wp2_with (first | (go_at_call 67; refine (HP.out _).mono ?_; rintro e w1 ⟨a, c, rfl, hb⟩; have HB : Hid _ := hb; clear hb))
  go_ret2
  exact ⟨rfl, HB.out⟩
theorem refParent_root {s : ByteArray} (h : parse s = (0, [])) (w : World) :
    Calls Tryz.prog 68 #[.string s] w fun e w' => e = .returned (.tuple #[.string ⟨#[]⟩, .int .i64 47]) ∧ Below w.heap.size w w' := by
  have HP : Hid _ := refParse_none h
  clear h
  go_enter Tryz.func68, Tryz.ntmps68
  go_wp2_with (first | (go_at_call 67; refine (HP.out _).mono ?_; rintro e w1 ⟨a, c, rfl, hb⟩; have HB : Hid _ := hb; clear hb))
  go_ret2
  exact ⟨rfl, HB.out⟩
set_option maxRecDepth 100000 in
theorem refParent_some {s : ByteArray} {xs : List ByteArray} (h : parse s = (0, xs)) (k : Nat) (hk : xs.length = k + 1) (w : World) :
    Calls Tryz.prog 68 #[.string s] w fun e w' => e = .returned (.tuple #[.string (placeB (xs.take k)), .int .i64 0]) ∧ Below w.heap.size w w' := by
  have hl := parse_len h
  have HP : Hid _ := refParse_some h (fun e => by rw [e] at hk; simp at hk)
  have htl : (xs.take k).length = k := by rw [List.length_take]; omega
  have hk6 : k ≤ 5 := by omega
  have HN : Hid (xs.all isNm = true) := hl.2
  have HT : Hid ((xs.take k).length = k) := htl
  have hk0 : ((k : Int) + 1 == 0) = false := by simp; omega
  obtain ⟨pb, hpb⟩ : ∃ pb, placeB (xs.take k) = pb := ⟨_, rfl⟩
  rw [hpb]
  have HPB : Hid (placeB (xs.take k) = pb) := hpb
  clear h hl htl hpb
  go_enter Tryz.func68, Tryz.ntmps68
  go_wp2_with fail
  refine (HP.out _).mono ?_
  rintro e w1 ⟨b, o, c, rfl, hlt, hs, hcap, hb⟩
  have HB : Hid _ := hb
  have hcap1 : k + 1 ≤ c := by have := hcap.1; omega
  have hcap2 : c ≤ 9223372036854775807 := by have := hcap.2; unfold maxLen at this; omega
  have HO : Hid (∀ c, Calls Tryz.prog 93 #[.slice (some ⟨b, o, none⟩) k c] w1 fun e w' => e = .returned (.string pb) ∧ w' = w1) := fun c => by
    have := of_any (some ⟨b, o, none⟩) c (xs.take k) w1 (lst_take' hlt hs k) (by rw [HT.out]; omega) (all_take' HN.out k)
    rw [HT.out, HPB.out] at this
    exact this
  clear hb hs hlt hcap
  go_wp2_with (first | (go_at_call 93; refine (HO.out _).mono ?_; rintro e w2 ⟨rfl, rfl⟩))
  go_ret2
  exact ⟨rfl, HB.out⟩

end Go.Proofs.YthelfbdkbldhjaaGreatDoor
namespace Go.Proofs.YthelfbdkbldhjaaGreatDoor
open Go.RowKit

theorem refName_err {s : ByteArray} {code : Int} (h : parse s = (code, [])) (w : World) :
    Calls Tryz.prog 84 #[.string s] w fun e w' => e = .returned (.tuple #[.string ⟨#[]⟩, .int .i64 code]) ∧ Below w.heap.size w w' := by
  have HP : Hid _ := refParse_none h
  clear h
  by_cases hc : code = 0
  · subst hc
    go_enter Tryz.func84, Tryz.ntmps84
    go_wp2_with (first | (go_at_call 67; refine (HP.out _).mono ?_; rintro e w1 ⟨a, c, rfl, hb⟩; have HB : Hid _ := hb; clear hb))
    go_ret2
    exact ⟨rfl, HB.out⟩
  · have hc' : (code != 0) = true := by simpa using hc
    go_enter Tryz.func84, Tryz.ntmps84
    go_wp2_with (first | (go_at_call 67; refine (HP.out _).mono ?_; rintro e w1 ⟨a, c, rfl, hb⟩; have HB : Hid _ := hb; clear hb))
    go_ret2
    exact ⟨rfl, HB.out⟩
theorem refName_some {s : ByteArray} {xs : List ByteArray} (h : parse s = (0, xs)) (k : Nat) (hk : xs.length = k + 1) (x : ByteArray) (hx : xs[k]? = some x) (w : World) :
    Calls Tryz.prog 84 #[.string s] w fun e w' => e = .returned (.tuple #[.string x, .int .i64 0]) ∧ Below w.heap.size w w' := by
  have hl := parse_len h
  have HP : Hid _ := refParse_some h (fun e => by rw [e] at hk; simp at hk)
  have HX : Hid _ := hx
  have hk6 : k ≤ 5 := by omega
  have hk0 : ((k : Int) + 1 == 0) = false := by simp; omega
  clear h hl hx
  go_enter Tryz.func84, Tryz.ntmps84
  go_wp2_with (first | (go_at_call 67; refine (HP.out _).mono ?_; rintro e w1 ⟨b, o, c, rfl, hlt, hs, hcap, hb⟩; have hcell := hs k x HX.out; have HB : Hid _ := hb; clear hb hs hlt hcap))
  go_ret2
  exact ⟨rfl, HB.out⟩
end Go.Proofs.YthelfbdkbldhjaaGreatDoor
namespace Go.Proofs.YthelfbdkbldhjaaGreatDoor
open Go.RowKit
set_option maxHeartbeats 3200000
theorem weight_any (c : UInt8) (w : World) :
    Calls Tryz.prog 105 #[.int .u8 (c.toNat : Int)] w fun e w' => e = .returned (.int .i64 (rk c)) ∧ w' = w := by
  unfold rk
  by_cases h : c.toNat = 47
  · rw [if_pos h]
    go_enter Tryz.func105, Tryz.ntmps105
    go_wp2
    go_ret
    exact ⟨rfl, rfl⟩
  · rw [if_neg h]
    have h1 : ((c.toNat : Int) == 47) = false := by simp; omega
    have h2 : (c.toNat : Int) < 256 := by have := c.toNat_lt; omega
    go_enter Tryz.func105, Tryz.ntmps105
    go_wp2
    go_ret
    exact ⟨rfl, rfl⟩
theorem ref_any (a b : ByteArray) (ha : a.size ≤ maxLen) (hb : b.size ≤ maxLen) (w : World) :
    Calls Tryz.prog 79 #[.string a, .string b] w fun e w' => e = .returned (.int .i64 (ordF a b (min a.size b.size + 1) 0)) ∧ w' = w := by
  unfold maxLen at ha hb
  go_enter Tryz.func79, Tryz.ntmps79
  go_wp2
  go_loop [5] (fun i => ∃ k : Nat, i = .int .i64 k ∧ k ≤ min a.size b.size ∧ ordF a b (min a.size b.size + 1 - k) k = ordF a b (min a.size b.size + 1) 0)
      (fun i => min a.size b.size - (intOf i).toNat)
  case atStart => exact ⟨0, rfl, by omega, by simp⟩
  case round =>
      obtain ⟨k, rfl, hk, hO⟩ := hrel
      have HO : Hid (ordF a b (min a.size b.size + 1 - k) k = ordF a b (min a.size b.size + 1) 0) := hO
      clear hO
      by_cases g3 : k < a.size
      · by_cases g4 : k < b.size
        · rcases Int.lt_trichotomy (rk a[k]) (rk b[k]) with hc | hc | hc
          · go_wp2_with (first | (go_at_call 105; refine (weight_any _ _).mono ?_; rintro e w' ⟨rfl, rfl⟩) | go_in)
            go_ret
            refine ⟨?_, rfl⟩
            rw [← HO.out, show min a.size b.size + 1 - k = (min a.size b.size - k) + 1 by omega, ordF_part a b _ k g3 g4 (by rw [get!_at a k g3, get!_at b k g4]; intro h; unfold rk at hc; rw [h] at hc; omega), get!_at a k g3, get!_at b k g4, sg, if_pos hc]
            rfl
          · go_wp2_with (first | (go_at_call 105; refine (weight_any _ _).mono ?_; rintro e w' ⟨rfl, rfl⟩) | go_in)
            go_round
            case rel => exact ⟨k + 1, by go_num, by omega, by rw [← HO.out, show min a.size b.size + 1 - k = (min a.size b.size - k) + 1 by omega, ordF_go a b _ k g3 g4 (by rw [get!_at a k g3, get!_at b k g4]; exact rk_inj hc)]; congr 1; omega⟩
            case measure => simp [intOf]; omega
          · go_wp2_with (first | (go_at_call 105; refine (weight_any _ _).mono ?_; rintro e w' ⟨rfl, rfl⟩) | go_in)
            go_ret
            refine ⟨?_, rfl⟩
            rw [← HO.out, show min a.size b.size + 1 - k = (min a.size b.size - k) + 1 by omega, ordF_part a b _ k g3 g4 (by rw [get!_at a k g3, get!_at b k g4]; intro h; unfold rk at hc; rw [h] at hc; omega), get!_at a k g3, get!_at b k g4, sg, if_neg (by omega), if_pos hc]
            rfl
        · go_wp2
          all_goals (
            go_ret
            refine ⟨?_, rfl⟩
            rw [← HO.out, show min a.size b.size + 1 - k = (min a.size b.size - k) + 1 by omega, ordF_end a b _ k (by omega)]
            first
              | rw [sg_lt (by omega)]; rfl
              | rw [sg_gt (by omega)]; rfl
              | rw [sg_eq (by omega)]; rfl)
      · go_wp2
        all_goals (
          go_ret
          refine ⟨?_, rfl⟩
          rw [← HO.out, show min a.size b.size + 1 - k = (min a.size b.size - k) + 1 by omega, ordF_end a b _ k (by omega)]
          first
            | rw [sg_lt (by omega)]; rfl
            | rw [sg_gt (by omega)]; rfl
            | rw [sg_eq (by omega)]; rfl)
end Go.Proofs.YthelfbdkbldhjaaGreatDoor
namespace Go.Proofs.YthelfbdkbldhjaaGreatDoor.Fa
open Go.RowKit
set_option linter.unusedVariables false
set_option linter.unusedSimpArgs false

theorem cell_n {w : World} {B e s n g cap k : Nat} {xs : List Value} {x : Value} (h : w.ownsRow B e s (.slice (some ⟨g, 0, none⟩) n cap) n xs) (hx : xs[k]? = some x) : w.cell? ⟨g, k, none⟩ = some x := by
  have hk : k < xs.length := (List.getElem?_eq_some_iff.1 hx).1
  rcases h.2 with ⟨h0, _⟩ | ⟨g', cap', cur, hv, _, hg, _, _, hsz, ht⟩
  · cases h0
  · cases hv
    have hkc : k < n * s := by have := h.1; omega
    have : cur[k]? = some x := by
      rw [← hx, ← ht, List.getElem?_take_of_lt hkc, Array.getElem?_toList]
    unfold World.cell?
    simp only [hg]
    exact this
theorem owns_set {w : World} {B e s n g cap k : Nat} {xs : List Value} (h : w.ownsRow B e s (.slice (some ⟨g, 0, none⟩) n cap) n xs) (x : Value) : (w.setCell ⟨g, k, none⟩ x).ownsRow B e s (.slice (some ⟨g, 0, none⟩) n cap) n (xs.set k x) := by
  refine ⟨by rw [List.length_set]; exact h.1, ?_⟩
  rcases h.2 with ⟨h0, _⟩ | ⟨g', cap', cur, hv, hB, hg, hn, hc, hsz, ht⟩
  · cases h0
  · cases hv
    refine .inr ⟨g, cap, cur.setIfInBounds k x, rfl, hB, heap_setCell_same w g k cur e x hg, hn, hc, by simpa using hsz, ?_⟩
    rw [← ht, Array.toList_setIfInBounds, List.take_set]
theorem flat_at {α : Type} {cells : α → List Value} {sz : Nat} (hsz : ∀ x, (cells x).length = sz) : ∀ {L : List α} {i : Nat} {x : α} {j : Nat} {u : Value}, L[i]? = some x → (cells x)[j]? = some u → (L.flatMap cells)[i * sz + j]? = some u
  | [], i, x, j, u, h, _ => by simp at h
  | y :: L, 0, x, j, u, h, hu => by
    obtain rfl : y = x := by simpa using h
    rw [List.flatMap_cons, Nat.zero_mul, Nat.zero_add, List.getElem?_append_left (by rw [hsz]; have := (List.getElem?_eq_some_iff.1 hu).1; rw [hsz] at this; exact this)]
    exact hu
  | y :: L, i + 1, x, j, u, h, hu => by
    have h' : L[i]? = some x := by simpa using h
    rw [List.flatMap_cons, List.getElem?_append_right (by rw [hsz, Nat.add_mul]; omega), hsz, show (i + 1) * sz + j - sz = i * sz + j by rw [Nat.add_mul]; omega]
    exact flat_at hsz h' hu
theorem flat_len {α : Type} {cells : α → List Value} {sz : Nat} (hsz : ∀ x, (cells x).length = sz) : ∀ L : List α, (L.flatMap cells).length = L.length * sz
  | [] => by simp
  | y :: L => by rw [List.flatMap_cons, List.length_append, hsz, flat_len hsz L, List.length_cons, Nat.add_mul]; omega
abbrev El (sz : Nat) : Type := { e : List Value // e.length = sz ∧ ∀ v ∈ e, v.oneCell' = true }
abbrev fl {sz : Nat} (l : List (El sz)) : List Value := l.flatMap (fun e => e.1)
theorem fl_len {sz : Nat} (l : List (El sz)) : (fl l).length = l.length * sz := flat_len (cells := fun e : El sz => e.1) (fun e => e.2.1) l
def setsL : List Value → Nat → List Value → List Value
  | xs, _, [] => xs
  | xs, o, v :: vs => setsL (xs.set o v) (o + 1) vs
theorem setsL_get : ∀ (e xs : List Value) (o j : Nat), (setsL xs o e)[j]? = if o ≤ j ∧ j < o + e.length ∧ j < xs.length then e[j - o]? else xs[j]?
  | [], xs, o, j => by rw [setsL, if_neg (by simp; omega)]
  | v :: vs, xs, o, j => by
    rw [setsL, setsL_get vs]
    simp only [List.length_set, List.length_cons]
    by_cases h1 : o + 1 ≤ j ∧ j < o + 1 + vs.length ∧ j < xs.length
    · rw [if_pos h1, if_pos (by omega), show j - o = (j - (o + 1)) + 1 by omega, List.getElem?_cons_succ]
    · rw [if_neg h1, List.getElem?_set]
      by_cases h2 : o = j
      · subst h2
        by_cases h3 : o < xs.length
        · rw [if_pos rfl, if_pos h3, if_pos (by omega), Nat.sub_self]; rfl
        · rw [if_pos rfl, if_neg h3, if_neg (by omega), List.getElem?_eq_none (by omega)]
      · rw [if_neg h2, if_neg (by omega)]
theorem flat_get {sz : Nat} (h0 : 0 < sz) (l : List (El sz)) (j : Nat) : (fl l)[j]? = (l[j / sz]?).bind (fun e => e.1[j % sz]?) := by
  by_cases hj : j / sz < l.length
  · have hm : j % sz < sz := Nat.mod_lt _ h0
    obtain ⟨x, hx⟩ : ∃ x, l[j / sz]? = some x := ⟨_, List.getElem?_eq_getElem hj⟩
    have hl := x.2.1
    obtain ⟨u, hu⟩ : ∃ u, x.1[j % sz]? = some u := ⟨_, List.getElem?_eq_getElem (by omega)⟩
    have := flat_at (cells := fun e : El sz => e.1) (fun e => e.2.1) hx hu
    rw [Nat.mul_comm, Nat.div_add_mod] at this
    rw [this, hx]
    simp [hu]
  · have hge : l.length * sz ≤ j := by
      have h1 := Nat.div_add_mod j sz
      have h2 : l.length * sz ≤ j / sz * sz := Nat.mul_le_mul_right _ (by omega)
      rw [Nat.mul_comm] at h1
      omega
    rw [List.getElem?_eq_none (by rw [fl_len]; exact hge), List.getElem?_eq_none (by omega)]
    rfl
theorem fl_set {sz : Nat} (h0 : 0 < sz) (l : List (El sz)) (i : Nat) (e : El sz) (hi : i < l.length) : fl (l.set i e) = setsL (fl l) (i * sz) e.1 := by
  apply List.ext_getElem?
  intro j
  have hm : j % sz < sz := Nat.mod_lt _ h0
  have hd := Nat.div_add_mod j sz
  rw [Nat.mul_comm] at hd
  rw [flat_get h0, setsL_get, flat_get h0, fl_len, e.2.1, List.getElem?_set]
  by_cases hk : i = j / sz
  · subst hk
    have hlt : j < l.length * sz := by
      have h2 : (j / sz + 1) * sz ≤ l.length * sz := Nat.mul_le_mul_right _ hi
      rw [Nat.add_mul] at h2
      omega
    rw [if_pos rfl, if_pos hi, if_pos ⟨by omega, by omega, hlt⟩, show j - j / sz * sz = j % sz by omega]
    rfl
  · rw [if_neg hk, if_neg]
    intro hh
    apply hk
    have h3 : i * sz ≤ j := hh.1
    have h4 : j < (i + 1) * sz := by rw [Nat.add_mul]; omega
    have e1 : i ≤ j / sz := (Nat.le_div_iff_mul_le h0).2 h3
    have e2 : j / sz < i + 1 := (Nat.div_lt_iff_lt_mul h0).2 h4
    omega
theorem owns_sets {B e s n g cap : Nat} : ∀ (vs xs : List Value) (o : Nat) (w : World), w.ownsRow B e s (.slice (some ⟨g, 0, none⟩) n cap) n xs → (w.setCells g o vs).ownsRow B e s (.slice (some ⟨g, 0, none⟩) n cap) n (setsL xs o vs)
  | [], xs, o, w, h => h
  | v :: vs, xs, o, w, h => owns_sets vs (xs.set o v) (o + 1) (w.setCell ⟨g, o, none⟩ v) (owns_set h v)
theorem row_sets {B T sz g cap : Nat} (h0 : 0 < sz) {w : World} {l : List (El sz)} (h : w.ownsRow B T sz (.slice (some ⟨g, 0, none⟩) l.length cap) l.length (fl l)) (i : Nat) (e : El sz) (hi : i < l.length) : (w.setCells g (i * sz) e.1).ownsRow B T sz (.slice (some ⟨g, 0, none⟩) l.length cap) (l.set i e).length (fl (l.set i e)) := by
  rw [List.length_set, fl_set h0 l i e hi]
  exact owns_sets e.1 _ _ w h
theorem owns_block {w : World} {B e s n g cap : Nat} {xs : List Value} (h : w.ownsRow B e s (.slice (some ⟨g, 0, none⟩) n cap) n xs) : ∃ cur, w.heap[g]? = some (.cells cur e (0, 0)) ∧ cur.size = cap * s ∧ n ≤ cap := by
  rcases h.2 with ⟨h0, _⟩ | ⟨g', cap', cur, hv, hB, hg, h1, h2, h3, h4⟩
  · cases h0
  · simp only [Value.slice.injEq, Option.some.injEq, Addr.mk.injEq, and_true, true_and] at hv
    obtain ⟨rfl, rfl⟩ := hv
    exact ⟨cur, hg, h3, h1⟩
theorem there_row {w : World} {B e s n g cap i : Nat} {xs : List Value} (h : w.ownsRow B e s (.slice (some ⟨g, 0, none⟩) n cap) n xs) (hi : i < n) : w.there g (i * s) s := fun j hj => by
  obtain ⟨cur, hg, hs, hc⟩ := owns_block h
  have h1 : (i + 1) * s ≤ cap * s := Nat.mul_le_mul_right _ (by omega)
  rw [Nat.add_mul, Nat.one_mul] at h1
  have h2 : i * s + j < cur.size := by omega
  refine ⟨?_, ?_⟩
  · simp [World.cell?, hg, h2]
  · simp [World.frozen?, hg]
theorem chg_setCells (b : Nat) : ∀ (vs : List Value) (o : Nat) (w : World), Chg w (w.setCells b o vs) (fun j => j = b)
  | [], o, w => Chg.refl _ _
  | v :: vs, o, w => (Chg.set w ⟨b, o, none⟩ v).trans (chg_setCells b vs (o + 1) (w.setCell ⟨b, o, none⟩ v))
end Go.Proofs.YthelfbdkbldhjaaGreatDoor.Fa
namespace Go.Proofs.YthelfbdkbldhjaaGreatDoor
open Go.RowKit Go.Maps Go.WideShapes
set_option linter.unusedVariables false
set_option linter.unusedSimpArgs false
attribute [local go_sem ↓] Go.wp_at_zero Go.wp_at_succ

/-- The document's nodes, readable in memory. -/
def NdsAt (w : World) (a : Option Addr) (T : List Nd) : Prop := ∀ i x, T[i]? = some x → ∃ b f, a = some ⟨b, f, none⟩ ∧ b < w.heap.size ∧ (∃ cur, w.heap[b]? = some (.cells cur 50 (0, 0))) ∧ ∀ j v, x.cs[j]? = some v → w.cell? ⟨b, f + i * 7 + j, none⟩ = some v
theorem NdsAt.below {w w' : World} {a : Option Addr} {T : List Nd} (h : NdsAt w a T) (hb : Below w.heap.size w w') : NdsAt w' a T := fun i x hx => by
  obtain ⟨b, f, ha, hlt, ⟨cur, hk⟩, hc⟩ := h i x hx
  exact ⟨b, f, ha, Nat.lt_of_lt_of_le hlt hb.size, ⟨cur, by rw [hb.block b hlt]; exact hk⟩, fun j v hv => by rw [hb.cell (p := ⟨b, f + i * 7 + j, none⟩) hlt]; exact hc j v hv⟩
theorem nds_of_row {w : World} {base g n cap : Nat} {T : List Nd} (h : w.ownsRow base 50 7 (.slice (some ⟨g, 0, none⟩) n cap) n (T.flatMap Nd.cs)) : NdsAt w (some ⟨g, 0, none⟩) T := fun i x hx => by
  refine ⟨g, 0, rfl, (h.lt g rfl).2, owns_kind h rfl, fun j v hv => ?_⟩
  rw [Nat.zero_add]
  exact Fa.cell_n h (Fa.flat_at (cells := Nd.cs) (fun _ => rfl) hx hv)
/-- The place of a node in a list, or -1. -/
def fndI : List Nd → ByteArray → Int
  | [], _ => -1
  | x :: r, s => if x.p = s then 0 else if fndI r s = -1 then -1 else fndI r s + 1
theorem fndI_none : ∀ {T : List Nd} {s : ByteArray}, (∀ x ∈ T, x.p ≠ s) → fndI T s = -1
  | [], _, _ => rfl
  | x :: r, s, h => by
    unfold fndI
    rw [if_neg (h x List.mem_cons_self), if_pos (fndI_none (fun y hy => h y (List.mem_cons_of_mem _ hy)))]
theorem fndI_some : ∀ {T : List Nd} {s : ByteArray} {q : Nat} {x : Nd}, T[q]? = some x → x.p = s → (∀ y ∈ T.take q, y.p ≠ s) → fndI T s = q
  | [], _, _, _, h, _, _ => by simp at h
  | y :: r, s, 0, x, h, hp, _ => by
    obtain rfl : y = x := by simpa using h
    unfold fndI
    rw [if_pos hp]
    rfl
  | y :: r, s, q + 1, x, h, hp, hn => by
    have ih := fndI_some (T := r) (s := s) (q := q) (x := x) (by simpa using h) hp (fun z hz => hn z (by simp [hz]))
    unfold fndI
    rw [if_neg (hn y (by simp)), ih, if_neg (by omega)]
    omega
theorem fndI_fnd {T : List Nd} {s : ByteArray} {x : Nd} (h : fnd T s = some x) : ∃ q : Nat, fndI T s = q ∧ T[q]? = some x ∧ ∀ y ∈ T.take q, y.p ≠ s := by
  induction T with
  | nil => cases h
  | cons y r ih =>
    unfold fnd at h
    rw [List.find?_cons] at h
    by_cases hy : y.p = s
    · rw [show decide (y.p = s) = true by simpa using hy] at h
      obtain rfl : y = x := by simpa using h
      exact ⟨0, by unfold fndI; rw [if_pos hy]; rfl, rfl, fun z hz => by simp at hz⟩
    · rw [show decide (y.p = s) = false by simpa using hy] at h
      obtain ⟨q, h1, h2, h3⟩ := ih h
      refine ⟨q + 1, ?_, by simpa using h2, fun z hz => ?_⟩
      · unfold fndI; rw [if_neg hy, h1, if_neg (by omega)]; omega
      · rw [List.take_succ_cons] at hz
        rcases List.mem_cons.1 hz with rfl | hz
        · exact hy
        · exact h3 z hz
theorem str_eq_t {a b : ByteArray} (h : a = b) : (a.toList == b.toList) = true := by rw [h]; simp
theorem str_eq_f {a b : ByteArray} (h : a ≠ b) : (a.toList == b.toList) = false := by have := str_ne h; simpa [bne] using this
set_option maxHeartbeats 4000000 in
set_option maxRecDepth 100000 in
theorem refFind_any (a : Option Addr) (c : Nat) (T : List Nd) (s : ByteArray) (w : World) (h : NdsAt w a T) (hl : T.length ≤ 1000) :
    Calls Tryz.prog 41 #[.slice a T.length c, .string s] w fun e w' => e = .returned (.int .i64 (fndI T s)) ∧ w' = w := by
  have H : Hid _ := h
  obtain ⟨N, hN⟩ : ∃ N, T.length = N := ⟨_, rfl⟩
  have HN : Hid (T.length = N) := hN
  rw [hN] at hl ⊢
  clear h hN
  go_enter Tryz.func41, Tryz.ntmps41
  go_wp2_with fail
  go_loopw [5] (fun i wr => ∃ q : Nat, i = .int .i64 q ∧ q ≤ N ∧ Hid (∀ y ∈ T.take q, y.p ≠ s) ∧ wr = w) (fun i _ => N - (intOf i).toNat)
  case atStart => exact ⟨0, rfl, Nat.zero_le _, (fun y hy => by simp at hy), rfl⟩
  case round =>
    obtain ⟨q, rfl, hq, HB, rfl⟩ := hrel
    by_cases hlt : q < N
    · have hqi : (q : Int) < (N : Int) := by omega
      obtain ⟨x, hx⟩ : ∃ x, T[q]? = some x := ⟨T[q]'(by rw [HN.out]; exact hlt), List.getElem?_eq_getElem _⟩
      obtain ⟨b, f, rfl, hb, _, hc⟩ := H.out q x hx
      have x0 := hc 0 _ rfl
      rw [Nat.add_zero] at x0
      have HX : Hid (T[q]? = some x) := hx
      clear hc hx
      by_cases hp : x.p = s
      · have e1 := str_eq_t hp
        have HP : Hid (x.p = s) := hp
        clear hp
        go_wp2_with fail
        go_ret
        exact ⟨by rw [fndI_some HX.out HP.out HB.out]; rfl, rfl⟩
      · have e1 := str_eq_f hp
        have HP : Hid (x.p ≠ s) := hp
        clear hp
        go_wp2_with fail
        go_roundw
        case rel => exact ⟨q + 1, by go_num, by omega, (fun y hy => by
          rw [List.take_add_one, HX.out] at hy
          rcases List.mem_append.1 hy with hy | hy
          · exact HB.out y hy
          · obtain rfl : y = x := by simpa using hy
            exact HP.out), trivial⟩
        case measure => simp [intOf]; omega
    · obtain rfl : q = N := by omega
      have hge : ¬ (q : Int) < (q : Int) := by omega
      go_wp2_with fail
      go_ret
      have h9 := HB.out
      rw [List.take_of_length_le (by rw [HN.out]; exact Nat.le_refl _)] at h9
      exact ⟨by rw [fndI_none h9]; rfl, rfl⟩
theorem refParent_any (p : ByteArray) (w : World) :
    Calls Tryz.prog 68 #[.string p] w fun e w' => e = .returned (.tuple #[.string (parB p), .int .i64 (parC p)]) ∧ Below w.heap.size w w' := by
  obtain ⟨code, xs, hp⟩ : ∃ code xs, parse p = (code, xs) := ⟨_, _, rfl⟩
  unfold parB parC
  rw [hp]
  by_cases hc : code = 0
  · subst hc
    cases xs with
    | nil => exact refParent_root hp w
    | cons x r =>
      have h9 := refParent_some hp r.length (by simp) w
      simpa using h9
  · have hx := parse_code hp hc
    subst hx
    simpa [hc] using refParent_err hp hc w
theorem refName_any (p : ByteArray) (w : World) :
    Calls Tryz.prog 84 #[.string p] w fun e w' => e = .returned (.tuple #[.string (lastN p), .int .i64 (parse p).1]) ∧ Below w.heap.size w w' := by
  obtain ⟨code, xs, hp⟩ : ∃ code xs, parse p = (code, xs) := ⟨_, _, rfl⟩
  unfold lastN
  rw [hp]
  rcases List.eq_nil_or_concat xs with rfl | ⟨ys, x, e⟩
  · exact refName_err hp w
  · rw [List.concat_eq_append] at e
    subst e
    have hc : code = 0 := Classical.byContradiction fun hc => by have := parse_code hp hc; simp at this
    subst hc
    have h9 := refName_some hp ys.length (by simp) x (by simp) w
    simpa using h9
def kidB (text above : ByteArray) : Bool := decide (parC text = 0 ∧ parB text = above)
set_option maxHeartbeats 4000000 in
theorem refKid_any (text above : ByteArray) (w : World) :
    Calls Tryz.prog 43 #[.string text, .string above] w fun e w' => e = .returned (.bool (kidB text above)) ∧ Below w.heap.size w w' := by
  have HP : Hid _ := refParent_any text w
  unfold kidB
  by_cases hc : parC text = 0
  · rw [hc] at HP ⊢
    by_cases hp : parB text = above
    · have e1 := str_eq_t hp
      rw [decide_eq_true ⟨rfl, hp⟩]
      clear hp hc
      go_enter Tryz.func43, Tryz.ntmps43
      go_wp2_with fail
      refine Calls.mono HP.out ?_
      rintro e w1 ⟨rfl, hb1⟩
      go_wp2_with fail
      go_ret
      exact ⟨rfl, hb1⟩
    · have e1 := str_eq_f hp
      rw [decide_eq_false (fun h => hp h.2)]
      clear hp hc
      go_enter Tryz.func43, Tryz.ntmps43
      go_wp2_with fail
      refine Calls.mono HP.out ?_
      rintro e w1 ⟨rfl, hb1⟩
      go_wp2_with fail
      go_ret
      exact ⟨rfl, hb1⟩
  · rw [decide_eq_false (fun h => hc h.1)]
    have e2 : (parC text == 0) = false := by simpa using hc
    obtain ⟨pc, hpc⟩ : ∃ pc, parC text = pc := ⟨_, rfl⟩
    rw [hpc] at HP e2
    clear hc hpc
    go_enter Tryz.func43, Tryz.ntmps43
    go_wp2_with fail
    refine Calls.mono HP.out ?_
    rintro e w1 ⟨rfl, hb1⟩
    go_wp2_with fail
    go_ret
    exact ⟨rfl, hb1⟩
set_option maxHeartbeats 4000000 in
theorem refShown_any (x : Nd) (w : World) :
    Calls Tryz.prog 56 #[x.V] w fun e w' => e = .returned (resV x.p ⟨#[]⟩ x.v x.m x.c x.o (.slice none 0 0)) ∧ Below w.heap.size w w' := by
  obtain ⟨p, d, v, m, c, o, k⟩ := x
  go_enter Tryz.func56, Tryz.ntmps56
  go_upto_region 1 with fail
  obtain ⟨W1, hW1⟩ : ∃ x, (w.alloc (.cells #[.string p, .string d, .int .i64 v, .int .i64 m, .int .i64 c, .int .i64 o, .int .i64 k] 50)).alloc (.cells #[.string ⟨#[]⟩, .string ⟨#[]⟩, .int .i64 0, .int .i64 0, .int .i64 0, .int .i64 0, .slice none 0 0] 87) = x := ⟨_, rfl⟩
  have HB1 : Hid (Below w.heap.size w W1) := by rw [← hW1]; exact ((Below.refl _ _).alloc (Nat.le_refl _) _).alloc (by simp) _
  have HN1 : Hid (W1.heap[w.heap.size]? = some (.cells #[.string p, .string d, .int .i64 v, .int .i64 m, .int .i64 c, .int .i64 o, .int .i64 k] 50 (0, 0))) := by rw [← hW1]; exact heap_alloc2_old _ _ _
  have HZ1 : Hid (W1.heap[w.heap.size + 1]? = some (.cells #[.string ⟨#[]⟩, .string ⟨#[]⟩, .int .i64 0, .int .i64 0, .int .i64 0, .int .i64 0, .slice none 0 0] 87 (0, 0))) := by rw [← hW1]; exact heap_alloc2_new _ _ _
  rw [hW1]
  clear hW1
  obtain ⟨a0, a1, a2, a3, a4, a5, a6⟩ := cells_7 HN1.out
  obtain ⟨b0, b1, b2, b3, b4, b5, b6⟩ := cells_7 HZ1.out
  have hfz := free_7 HZ1.out
  go_wp2_with fail
  exact bodyPost_ret (results_cell1 rfl _ _ (w.heap.size + 1) 87 _ (0, 0) _ rfl (fill_7 HZ1.out) Tryz.underlying87 rfl (by kernel_rfl)) rfl ⟨rfl, fillB_7 HB1.out (by omega)⟩
end Go.Proofs.YthelfbdkbldhjaaGreatDoor
