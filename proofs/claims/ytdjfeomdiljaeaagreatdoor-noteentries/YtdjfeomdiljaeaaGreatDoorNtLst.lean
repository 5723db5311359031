/-
  note: checks of places, names, kinds, lists.
-/
import Derived.Test.YtdjfeomdiljaeaaGreatDoorNtList
namespace Go.Proofs.YtdjfeomdiljaeaaGreatDoor
open Go.RowKit
set_option linter.unusedVariables false
set_option linter.unusedSimpArgs false

theorem ext_alloc {w W : World} (h : Below w.heap.size w W) (o : Obj) : Below w.heap.size w (W.alloc o) := h.alloc h.size o
theorem ext_set {w W : World} {g i : Nat} {v : Value} (h : Below w.heap.size w W) (hg : w.heap.size ≤ g) : Below w.heap.size w (W.setCell ⟨g, i, none⟩ v) := h.setCell hg v
theorem place_ck (s : ByteArray) (w : World) (hg : Ground w) : Calls Tryz.prog 246 #[.string s] w (CK ((parse s).1 = 0) w) := by
  obtain ⟨ok, hok⟩ : ∃ ok : Prop, ((parse s).1 = 0) = ok := ⟨_, rfl⟩
  have HOK : Hid (ok = ((parse s).1 = 0)) := hok.symm
  have HP : Hid _ := parse_any s w hg
  rw [hok]
  clear hok hg
  obtain ⟨cd, hcd⟩ : ∃ cd, (parse s).1 = cd := ⟨_, rfl⟩
  have HCD : Hid ((parse s).1 = cd) := hcd
  clear hcd
  go_enter Tryz.func246, Tryz.ntmps246
  by_cases h1 : cd = 0
  · go_upto_region 1 with (first
      | (go_at_call 279; refine Calls.mono HP.out ?_; rintro e w1 ⟨a, c, rfl, _, hb⟩; rw [HCD.out]; (have HB : Hid (Below w.heap.size w w1) := hb); clear hb)
      | fail)
    go_wp2_with fail
    refine (must_ck _ _).mono ?_
    rintro e w2 ⟨⟨rfl, _⟩ | ⟨rfl, h⟩, rfl⟩
    · go_wp2_with fail
      exact bodyPost_end (results_none rfl _ _ _) rfl ⟨.inl ⟨rfl, by rw [HOK.out, HCD.out]; exact h1⟩, HB.out⟩
    · exact absurd rfl h
  · go_upto_region 1 with (first
      | (go_at_call 279; refine Calls.mono HP.out ?_; rintro e w1 ⟨a, c, rfl, _, hb⟩; rw [HCD.out]; (have HB : Hid (Below w.heap.size w w1) := hb); clear hb)
      | fail)
    go_wp2_with fail
    refine (must_ck _ _).mono ?_
    rintro e w2 ⟨⟨rfl, h⟩ | ⟨rfl, _⟩, rfl⟩
    · exact absurd (by simpa using h) h1
    · exact ⟨rfl, .inr ⟨rfl, by rw [HOK.out, HCD.out]; exact h1⟩, HB.out⟩
theorem kind_ck (k : Int) (w : World) : Calls Tryz.prog 260 #[.int .i64 k] w (CK (1 ≤ k ∧ k ≤ 3) w) := by
  obtain ⟨ok, hok⟩ : ∃ ok : Prop, (1 ≤ k ∧ k ≤ 3) = ok := ⟨_, rfl⟩
  have HOK : Hid (ok = (1 ≤ k ∧ k ≤ 3)) := hok.symm
  rw [hok]
  clear hok
  go_enter Tryz.func260, Tryz.ntmps260
  by_cases h1 : k = 1
  · go_wp2_with fail
    refine (must_ck _ _).mono ?_
    rintro e w2 ⟨⟨rfl, _⟩ | ⟨rfl, h⟩, rfl⟩
    · go_wp2_with fail
      exact bodyPost_end (results_none rfl _ _ _) rfl ⟨.inl ⟨rfl, by rw [HOK.out]; omega⟩, Below.refl _ _⟩
    · exact absurd rfl h
  by_cases h2 : k = 2
  · go_wp2_with fail
    refine (must_ck _ _).mono ?_
    rintro e w2 ⟨⟨rfl, _⟩ | ⟨rfl, h⟩, rfl⟩
    · go_wp2_with fail
      exact bodyPost_end (results_none rfl _ _ _) rfl ⟨.inl ⟨rfl, by rw [HOK.out]; omega⟩, Below.refl _ _⟩
    · exact absurd rfl h
  by_cases h3 : k = 3
  · go_wp2_with fail
    refine (must_ck _ _).mono ?_
    rintro e w2 ⟨⟨rfl, _⟩ | ⟨rfl, h⟩, rfl⟩
    · go_wp2_with fail
      exact bodyPost_end (results_none rfl _ _ _) rfl ⟨.inl ⟨rfl, by rw [HOK.out]; omega⟩, Below.refl _ _⟩
    · exact absurd rfl h
  go_wp2_with fail
  refine (must_ck _ _).mono ?_
  rintro e w2 ⟨⟨rfl, h⟩ | ⟨rfl, _⟩, rfl⟩
  · exact absurd h (by simp [h1, h2, h3])
  · exact ⟨rfl, .inr ⟨rfl, by rw [HOK.out]; omega⟩, Below.refl _ _⟩
/-- Names: a place of one name behind a slash. -/
def NmOk (s : ByteArray) : Prop := s.size ≤ 16 ∧ (parse (⟨#[47]⟩ ++ s)).1 = 0 ∧ (parse (⟨#[47]⟩ ++ s)).2.length = 1
theorem parse_fst (t : ByteArray) (w : World) (hg : Ground w) : Calls Tryz.prog 279 #[.string t] w fun e w' => ∃ a c, e = .returned (.tuple #[.slice a (parse t).2.length c, .int .i64 (parse t).1]) ∧ Below w.heap.size w w' :=
  (parse_any t w hg).mono fun e w' ⟨a, c, he, _, hb'⟩ => ⟨a, c, he, hb'⟩
theorem name_ckA (s t : ByteArray) (ht : ⟨#[47]⟩ ++ s = t) (cd : Int) (ln : Nat) (ok : Prop) (hcd : (parse t).1 = cd) (hln : (parse t).2.length = ln) (HCD : Hid (ok = (s.size ≤ 16 ∧ cd = 0 ∧ ln = 1))) (w : World) (hg : Ground w) :
    Calls Tryz.prog 248 #[.string s] w (CK ok w) := by
  have HG : Hid (Ground w) := hg
  have HP : Hid (∀ W, Below w.heap.size w W → Calls Tryz.prog 279 #[.string t] W fun e w' => ∃ a c, e = .returned (.tuple #[.slice a ln c, .int .i64 cd]) ∧ Below W.heap.size W w') := fun W hb => by
    have h := parse_fst t W (HG.out.below hb)
    rw [hcd, hln] at h
    exact h
  clear hcd hln hg
  have HTE : Hid (⟨#[47]⟩ ++ s = t) := ht
  clear ht
  have HT : Hid _ := text_ck s 16 w
  go_enter Tryz.func248, Tryz.ntmps248
  go_wp2_with (first
    | (go_at_call 106; refine Calls.mono HT.out ?_; rintro e w1 ⟨⟨rfl, h⟩ | ⟨rfl, h⟩, hb⟩)
    | fail)
  · have HS : Hid ((s.size : Int) ≤ 16) := h
    have HB1 : Hid (Below w.heap.size w w1) := hb
    clear h hb
    by_cases h1 : cd = 0
    · by_cases h2 : ln = 1
      · subst h1
        subst h2
        go_wp2_with (first
          | (go_at_call 279; rw [HTE.out]; refine Calls.mono (HP.out _ HB1.out) ?_; rintro e w2 ⟨a, c, rfl, hb⟩; (have HB2 : Hid (Below w.heap.size w w2) := xtransN HB1.out hb); clear hb)
          | (go_at_call 70; refine (must_ck _ _).mono ?_; rintro e w3 ⟨⟨rfl, _⟩ | ⟨rfl, h⟩, rfl⟩)
          | fail)
        · exact bodyPost_end (results_none rfl _ _ _) rfl ⟨.inl ⟨rfl, by rw [HCD.out]; have h1 := HS.out; refine ⟨by omega, ?_, ?_⟩ <;> first | rfl | trivial⟩, HB2.out⟩
        · exact absurd (by first | rfl | trivial) h
      · subst h1
        have h2' : ¬ (ln : Int) = 1 := by omega
        go_wp2_with (first
          | (go_at_call 279; rw [HTE.out]; refine Calls.mono (HP.out _ HB1.out) ?_; rintro e w2 ⟨a, c, rfl, hb⟩; (have HB2 : Hid (Below w.heap.size w w2) := xtransN HB1.out hb); clear hb)
          | (go_at_call 70; refine (must_ck _ _).mono ?_; rintro e w3 ⟨⟨rfl, h⟩ | ⟨rfl, _⟩, rfl⟩)
          | fail)
        · exact absurd h (by simp; omega)
        · exact ⟨rfl, .inr ⟨rfl, by rw [HCD.out]; exact fun g => h2 g.2.2⟩, HB2.out⟩
    · go_wp2_with (first
        | (go_at_call 279; rw [HTE.out]; refine Calls.mono (HP.out _ HB1.out) ?_; rintro e w2 ⟨a, c, rfl, hb⟩; (have HB2 : Hid (Below w.heap.size w w2) := xtransN HB1.out hb); clear hb)
        | (go_at_call 70; refine (must_ck _ _).mono ?_; rintro e w3 ⟨⟨rfl, h⟩ | ⟨rfl, _⟩, rfl⟩)
        | fail)
      · exact absurd h (by simp [h1])
      · exact ⟨rfl, .inr ⟨rfl, by rw [HCD.out]; exact fun g => h1 g.2.1⟩, HB2.out⟩
  · exact ⟨rfl, .inr ⟨rfl, by rw [HCD.out]; exact fun g => by have h2 := g.1; omega⟩, hb⟩
theorem name_ck (s : ByteArray) (w : World) (hg : Ground w) : Calls Tryz.prog 248 #[.string s] w (CK (NmOk s) w) :=
  name_ckA s _ rfl _ _ _ rfl rfl rfl w hg
set_option maxHeartbeats 3200000 in
theorem listOp (low high : Int) (a : Option Addr) (c : Nat) (L : List OpN) (P : OpN → Prop) (w : World) (hC : ∀ x ∈ L, ∀ W, Below w.heap.size w W → Calls Tryz.prog 69 #[x.val] W (CK (P x) W)) (hL : RowC w a 5 (L.map OpN.cl)) :
    Calls Tryz.prog 68 #[.slice a L.length c, .int .i64 low, .int .i64 high, .func (.func 69) #[] #[]] w (CK ((low ≤ (L.length : Int) ∧ (L.length : Int) ≤ high) ∧ ∀ x ∈ L, P x) w) := by
  have HL : Hid (RowC w a 5 (L.map OpN.cl)) := hL
  have HC : Hid (∀ x ∈ L, ∀ W, Below w.heap.size w W → Calls Tryz.prog 69 #[x.val] W (CK (P x) W)) := hC
  obtain ⟨ok, hok⟩ : ∃ ok : Prop, ((low ≤ (L.length : Int) ∧ (L.length : Int) ≤ high) ∧ ∀ x ∈ L, P x) = ok := ⟨_, rfl⟩
  have HOK : Hid (ok = ((low ≤ (L.length : Int) ∧ (L.length : Int) ≤ high) ∧ ∀ x ∈ L, P x)) := hok.symm
  obtain ⟨m, hm⟩ : ∃ m, L.length = m := ⟨_, rfl⟩
  have HM : Hid (L.length = m) := hm
  have hlen := hL.len
  rw [hm] at hlen
  rw [hok, hm]
  clear hok hm hL hC
  by_cases h1 : low ≤ (m : Int)
  · by_cases h2 : (m : Int) ≤ high
    · go_enter Tryz.func68, Tryz.ntmps68
      go_wp2_with fail
      refine (must_ck _ _).mono ?_
      rintro e w1 ⟨⟨rfl, _⟩ | ⟨rfl, h⟩, rfl⟩
      · go_wp2_with fail
        go_loopw [23] (fun iv wr => ∃ q : Nat, iv = .int .i64 q ∧ q ≤ m ∧ Hid (∀ j x, j < q → L[j]? = some x → P x) ∧ Hid (Below w1.heap.size w1 wr)) (fun iv _ => m - (intOf iv).toNat)
        case atStart => exact ⟨0, rfl, Nat.zero_le _, fun j x h => absurd h (by omega), Below.refl _ _⟩
        case round =>
          obtain ⟨q, rfl, hqm, HDo, HBr⟩ := hrel
          by_cases hlt : q < m
          · have hlt' : (q : Int) < (m : Int) := by omega
            obtain ⟨x, hx⟩ : ∃ x, L[q]? = some x := ⟨L[q]'(by rw [HM.out]; exact hlt), List.getElem?_eq_getElem _⟩
            have HX : Hid (L[q]? = some x) := hx
            have HM1 : Hid (x ∈ L) := List.mem_of_getElem? hx
            obtain ⟨b, o, rfl, n0, n1, n2, n3, n4⟩ := (HL.out.below HBr.out).at5 (map_at hx)
            clear hx
            go_wp2_with (first
              | (go_at_call 69; refine Calls.mono (HC.out x HM1.out _ (by repeat (first | exact HBr.out | refine ext_set ?_ (by first | exact Nat.le_refl _ | exact HBr.out.size) | refine ext_alloc ?_ _))) ?_; rintro e w2 ⟨⟨rfl, h⟩ | ⟨rfl, h⟩, hb⟩)
              | fail)
            · have HD1 : Hid (∀ j x, j < q + 1 → L[j]? = some x → P x) := fun j y hj hy => by
                by_cases e : j = q
                · subst e
                  rw [HX.out] at hy
                  cases hy
                  exact h
                · exact HDo.out j y (by omega) hy
              have HB2 : Hid (Below w1.heap.size w1 w2) := xtransN (by repeat (first | exact HBr.out | refine ext_set ?_ (by first | exact Nat.le_refl _ | exact HBr.out.size) | refine ext_alloc ?_ _)) hb
              clear h hb
              go_wp2_with fail
              go_roundw
              case rel => exact ⟨q + 1, by go_num, by omega, HD1, HB2⟩
              case measure => simp [intOf]; omega
            · exact ⟨rfl, .inr ⟨rfl, by rw [HOK.out]; exact fun g => h (g.2 x HM1.out)⟩, xtransN (by repeat (first | exact HBr.out | refine ext_set ?_ (by first | exact Nat.le_refl _ | exact HBr.out.size) | refine ext_alloc ?_ _)) hb⟩
          · have hlt' : ¬ (q : Int) < (m : Int) := by omega
            go_wp2_with fail
            exact bodyPost_end (results_none rfl _ _ _) rfl ⟨.inl ⟨rfl, by
              rw [HOK.out, HM.out]
              refine ⟨⟨h1, h2⟩, fun x hx => ?_⟩
              obtain ⟨j, hj, e⟩ := List.getElem_of_mem hx
              have := HM.out
              exact HDo.out j x (by omega) (by rw [List.getElem?_eq_getElem hj, e])⟩, HBr.out⟩
      · exact absurd rfl h
    · go_enter Tryz.func68, Tryz.ntmps68
      go_wp2_with fail
      refine (must_ck _ _).mono ?_
      rintro e w1 ⟨⟨rfl, h⟩ | ⟨rfl, _⟩, rfl⟩
      · exact absurd h (by decide)
      · exact ⟨rfl, .inr ⟨rfl, by rw [HOK.out, HM.out]; exact fun g => by have h3 := g.1.2; omega⟩, Below.refl _ _⟩
  · go_enter Tryz.func68, Tryz.ntmps68
    go_wp2_with fail
    refine (must_ck _ _).mono ?_
    rintro e w1 ⟨⟨rfl, h⟩ | ⟨rfl, _⟩, rfl⟩
    · exact absurd h (by decide)
    · exact ⟨rfl, .inr ⟨rfl, by rw [HOK.out, HM.out]; exact fun g => by have h3 := g.1.1; omega⟩, Below.refl _ _⟩
set_option maxHeartbeats 3200000 in
theorem listEn (low high : Int) (a : Option Addr) (c : Nat) (L : List EnN) (P : EnN → Prop) (w : World) (hC : ∀ x ∈ L, ∀ W, Below w.heap.size w W → Calls Tryz.prog 25 #[x.val] W (CK (P x) W)) (hL : RowC w a 6 (L.map EnN.cl)) :
    Calls Tryz.prog 202 #[.slice a L.length c, .int .i64 low, .int .i64 high, .func (.func 25) #[] #[]] w (CK ((low ≤ (L.length : Int) ∧ (L.length : Int) ≤ high) ∧ ∀ x ∈ L, P x) w) := by
  have HL : Hid (RowC w a 6 (L.map EnN.cl)) := hL
  have HC : Hid (∀ x ∈ L, ∀ W, Below w.heap.size w W → Calls Tryz.prog 25 #[x.val] W (CK (P x) W)) := hC
  obtain ⟨ok, hok⟩ : ∃ ok : Prop, ((low ≤ (L.length : Int) ∧ (L.length : Int) ≤ high) ∧ ∀ x ∈ L, P x) = ok := ⟨_, rfl⟩
  have HOK : Hid (ok = ((low ≤ (L.length : Int) ∧ (L.length : Int) ≤ high) ∧ ∀ x ∈ L, P x)) := hok.symm
  obtain ⟨m, hm⟩ : ∃ m, L.length = m := ⟨_, rfl⟩
  have HM : Hid (L.length = m) := hm
  have hlen := hL.len
  rw [hm] at hlen
  rw [hok, hm]
  clear hok hm hL hC
  by_cases h1 : low ≤ (m : Int)
  · by_cases h2 : (m : Int) ≤ high
    · go_enter Tryz.func202, Tryz.ntmps202
      go_wp2_with fail
      refine (must_ck _ _).mono ?_
      rintro e w1 ⟨⟨rfl, _⟩ | ⟨rfl, h⟩, rfl⟩
      · go_wp2_with fail
        go_loopw [23] (fun iv wr => ∃ q : Nat, iv = .int .i64 q ∧ q ≤ m ∧ Hid (∀ j x, j < q → L[j]? = some x → P x) ∧ Hid (Below w1.heap.size w1 wr)) (fun iv _ => m - (intOf iv).toNat)
        case atStart => exact ⟨0, rfl, Nat.zero_le _, fun j x h => absurd h (by omega), Below.refl _ _⟩
        case round =>
          obtain ⟨q, rfl, hqm, HDo, HBr⟩ := hrel
          by_cases hlt : q < m
          · have hlt' : (q : Int) < (m : Int) := by omega
            obtain ⟨x, hx⟩ : ∃ x, L[q]? = some x := ⟨L[q]'(by rw [HM.out]; exact hlt), List.getElem?_eq_getElem _⟩
            have HX : Hid (L[q]? = some x) := hx
            have HM1 : Hid (x ∈ L) := List.mem_of_getElem? hx
            obtain ⟨b, o, rfl, n0, n1, n2, n3, n4, n5⟩ := (HL.out.below HBr.out).at6 (map_at hx)
            clear hx
            go_wp2_with (first
              | (go_at_call 25; refine Calls.mono (HC.out x HM1.out _ (by repeat (first | exact HBr.out | refine ext_set ?_ (by first | exact Nat.le_refl _ | exact HBr.out.size) | refine ext_alloc ?_ _))) ?_; rintro e w2 ⟨⟨rfl, h⟩ | ⟨rfl, h⟩, hb⟩)
              | fail)
            · have HD1 : Hid (∀ j x, j < q + 1 → L[j]? = some x → P x) := fun j y hj hy => by
                by_cases e : j = q
                · subst e
                  rw [HX.out] at hy
                  cases hy
                  exact h
                · exact HDo.out j y (by omega) hy
              have HB2 : Hid (Below w1.heap.size w1 w2) := xtransN (by repeat (first | exact HBr.out | refine ext_set ?_ (by first | exact Nat.le_refl _ | exact HBr.out.size) | refine ext_alloc ?_ _)) hb
              clear h hb
              go_wp2_with fail
              go_roundw
              case rel => exact ⟨q + 1, by go_num, by omega, HD1, HB2⟩
              case measure => simp [intOf]; omega
            · exact ⟨rfl, .inr ⟨rfl, by rw [HOK.out]; exact fun g => h (g.2 x HM1.out)⟩, xtransN (by repeat (first | exact HBr.out | refine ext_set ?_ (by first | exact Nat.le_refl _ | exact HBr.out.size) | refine ext_alloc ?_ _)) hb⟩
          · have hlt' : ¬ (q : Int) < (m : Int) := by omega
            go_wp2_with fail
            exact bodyPost_end (results_none rfl _ _ _) rfl ⟨.inl ⟨rfl, by
              rw [HOK.out, HM.out]
              refine ⟨⟨h1, h2⟩, fun x hx => ?_⟩
              obtain ⟨j, hj, e⟩ := List.getElem_of_mem hx
              have := HM.out
              exact HDo.out j x (by omega) (by rw [List.getElem?_eq_getElem hj, e])⟩, HBr.out⟩
      · exact absurd rfl h
    · go_enter Tryz.func202, Tryz.ntmps202
      go_wp2_with fail
      refine (must_ck _ _).mono ?_
      rintro e w1 ⟨⟨rfl, h⟩ | ⟨rfl, _⟩, rfl⟩
      · exact absurd h (by decide)
      · exact ⟨rfl, .inr ⟨rfl, by rw [HOK.out, HM.out]; exact fun g => by have h3 := g.1.2; omega⟩, Below.refl _ _⟩
  · go_enter Tryz.func202, Tryz.ntmps202
    go_wp2_with fail
    refine (must_ck _ _).mono ?_
    rintro e w1 ⟨⟨rfl, h⟩ | ⟨rfl, _⟩, rfl⟩
    · exact absurd h (by decide)
    · exact ⟨rfl, .inr ⟨rfl, by rw [HOK.out, HM.out]; exact fun g => by have h3 := g.1.1; omega⟩, Below.refl _ _⟩
set_option maxHeartbeats 3200000 in
theorem listRs (low high : Int) (a : Option Addr) (c : Nat) (L : List RsN) (P : RsN → Prop) (w : World) (hC : ∀ x ∈ L, ∀ W, Below w.heap.size w W → Calls Tryz.prog 186 #[x.val] W (CK (P x) W)) (hL : RowC w a 7 (L.map RsN.cl)) :
    Calls Tryz.prog 185 #[.slice a L.length c, .int .i64 low, .int .i64 high, .func (.func 186) #[] #[]] w (CK ((low ≤ (L.length : Int) ∧ (L.length : Int) ≤ high) ∧ ∀ x ∈ L, P x) w) := by
  have HL : Hid (RowC w a 7 (L.map RsN.cl)) := hL
  have HC : Hid (∀ x ∈ L, ∀ W, Below w.heap.size w W → Calls Tryz.prog 186 #[x.val] W (CK (P x) W)) := hC
  obtain ⟨ok, hok⟩ : ∃ ok : Prop, ((low ≤ (L.length : Int) ∧ (L.length : Int) ≤ high) ∧ ∀ x ∈ L, P x) = ok := ⟨_, rfl⟩
  have HOK : Hid (ok = ((low ≤ (L.length : Int) ∧ (L.length : Int) ≤ high) ∧ ∀ x ∈ L, P x)) := hok.symm
  obtain ⟨m, hm⟩ : ∃ m, L.length = m := ⟨_, rfl⟩
  have HM : Hid (L.length = m) := hm
  have hlen := hL.len
  rw [hm] at hlen
  rw [hok, hm]
  clear hok hm hL hC
  by_cases h1 : low ≤ (m : Int)
  · by_cases h2 : (m : Int) ≤ high
    · go_enter Tryz.func185, Tryz.ntmps185
      go_wp2_with fail
      refine (must_ck _ _).mono ?_
      rintro e w1 ⟨⟨rfl, _⟩ | ⟨rfl, h⟩, rfl⟩
      · go_wp2_with fail
        go_loopw [23] (fun iv wr => ∃ q : Nat, iv = .int .i64 q ∧ q ≤ m ∧ Hid (∀ j x, j < q → L[j]? = some x → P x) ∧ Hid (Below w1.heap.size w1 wr)) (fun iv _ => m - (intOf iv).toNat)
        case atStart => exact ⟨0, rfl, Nat.zero_le _, fun j x h => absurd h (by omega), Below.refl _ _⟩
        case round =>
          obtain ⟨q, rfl, hqm, HDo, HBr⟩ := hrel
          by_cases hlt : q < m
          · have hlt' : (q : Int) < (m : Int) := by omega
            obtain ⟨x, hx⟩ : ∃ x, L[q]? = some x := ⟨L[q]'(by rw [HM.out]; exact hlt), List.getElem?_eq_getElem _⟩
            have HX : Hid (L[q]? = some x) := hx
            have HM1 : Hid (x ∈ L) := List.mem_of_getElem? hx
            obtain ⟨b, o, rfl, n0, n1, n2, n3, n4, n5, n6⟩ := (HL.out.below HBr.out).at7 (map_at hx)
            clear hx
            go_wp2_with (first
              | (go_at_call 186; refine Calls.mono (HC.out x HM1.out _ (by repeat (first | exact HBr.out | refine ext_set ?_ (by first | exact Nat.le_refl _ | exact HBr.out.size) | refine ext_alloc ?_ _))) ?_; rintro e w2 ⟨⟨rfl, h⟩ | ⟨rfl, h⟩, hb⟩)
              | fail)
            · have HD1 : Hid (∀ j x, j < q + 1 → L[j]? = some x → P x) := fun j y hj hy => by
                by_cases e : j = q
                · subst e
                  rw [HX.out] at hy
                  cases hy
                  exact h
                · exact HDo.out j y (by omega) hy
              have HB2 : Hid (Below w1.heap.size w1 w2) := xtransN (by repeat (first | exact HBr.out | refine ext_set ?_ (by first | exact Nat.le_refl _ | exact HBr.out.size) | refine ext_alloc ?_ _)) hb
              clear h hb
              go_wp2_with fail
              go_roundw
              case rel => exact ⟨q + 1, by go_num, by omega, HD1, HB2⟩
              case measure => simp [intOf]; omega
            · exact ⟨rfl, .inr ⟨rfl, by rw [HOK.out]; exact fun g => h (g.2 x HM1.out)⟩, xtransN (by repeat (first | exact HBr.out | refine ext_set ?_ (by first | exact Nat.le_refl _ | exact HBr.out.size) | refine ext_alloc ?_ _)) hb⟩
          · have hlt' : ¬ (q : Int) < (m : Int) := by omega
            go_wp2_with fail
            exact bodyPost_end (results_none rfl _ _ _) rfl ⟨.inl ⟨rfl, by
              rw [HOK.out, HM.out]
              refine ⟨⟨h1, h2⟩, fun x hx => ?_⟩
              obtain ⟨j, hj, e⟩ := List.getElem_of_mem hx
              have := HM.out
              exact HDo.out j x (by omega) (by rw [List.getElem?_eq_getElem hj, e])⟩, HBr.out⟩
      · exact absurd rfl h
    · go_enter Tryz.func185, Tryz.ntmps185
      go_wp2_with fail
      refine (must_ck _ _).mono ?_
      rintro e w1 ⟨⟨rfl, h⟩ | ⟨rfl, _⟩, rfl⟩
      · exact absurd h (by decide)
      · exact ⟨rfl, .inr ⟨rfl, by rw [HOK.out, HM.out]; exact fun g => by have h3 := g.1.2; omega⟩, Below.refl _ _⟩
  · go_enter Tryz.func185, Tryz.ntmps185
    go_wp2_with fail
    refine (must_ck _ _).mono ?_
    rintro e w1 ⟨⟨rfl, h⟩ | ⟨rfl, _⟩, rfl⟩
    · exact absurd h (by decide)
    · exact ⟨rfl, .inr ⟨rfl, by rw [HOK.out, HM.out]; exact fun g => by have h3 := g.1.1; omega⟩, Below.refl _ _⟩
set_option maxHeartbeats 3200000 in
theorem listWa (low high : Int) (a : Option Addr) (c : Nat) (L : List WaN) (P : WaN → Prop) (w : World) (hC : ∀ x ∈ L, ∀ W, Below w.heap.size w W → Calls Tryz.prog 209 #[x.val] W (CK (P x) W)) (hL : RowC w a 4 (L.map WaN.cl)) :
    Calls Tryz.prog 208 #[.slice a L.length c, .int .i64 low, .int .i64 high, .func (.func 209) #[] #[]] w (CK ((low ≤ (L.length : Int) ∧ (L.length : Int) ≤ high) ∧ ∀ x ∈ L, P x) w) := by
  have HL : Hid (RowC w a 4 (L.map WaN.cl)) := hL
  have HC : Hid (∀ x ∈ L, ∀ W, Below w.heap.size w W → Calls Tryz.prog 209 #[x.val] W (CK (P x) W)) := hC
  obtain ⟨ok, hok⟩ : ∃ ok : Prop, ((low ≤ (L.length : Int) ∧ (L.length : Int) ≤ high) ∧ ∀ x ∈ L, P x) = ok := ⟨_, rfl⟩
  have HOK : Hid (ok = ((low ≤ (L.length : Int) ∧ (L.length : Int) ≤ high) ∧ ∀ x ∈ L, P x)) := hok.symm
  obtain ⟨m, hm⟩ : ∃ m, L.length = m := ⟨_, rfl⟩
  have HM : Hid (L.length = m) := hm
  have hlen := hL.len
  rw [hm] at hlen
  rw [hok, hm]
  clear hok hm hL hC
  by_cases h1 : low ≤ (m : Int)
  · by_cases h2 : (m : Int) ≤ high
    · go_enter Tryz.func208, Tryz.ntmps208
      go_wp2_with fail
      refine (must_ck _ _).mono ?_
      rintro e w1 ⟨⟨rfl, _⟩ | ⟨rfl, h⟩, rfl⟩
      · go_wp2_with fail
        go_loopw [23] (fun iv wr => ∃ q : Nat, iv = .int .i64 q ∧ q ≤ m ∧ Hid (∀ j x, j < q → L[j]? = some x → P x) ∧ Hid (Below w1.heap.size w1 wr)) (fun iv _ => m - (intOf iv).toNat)
        case atStart => exact ⟨0, rfl, Nat.zero_le _, fun j x h => absurd h (by omega), Below.refl _ _⟩
        case round =>
          obtain ⟨q, rfl, hqm, HDo, HBr⟩ := hrel
          by_cases hlt : q < m
          · have hlt' : (q : Int) < (m : Int) := by omega
            obtain ⟨x, hx⟩ : ∃ x, L[q]? = some x := ⟨L[q]'(by rw [HM.out]; exact hlt), List.getElem?_eq_getElem _⟩
            have HX : Hid (L[q]? = some x) := hx
            have HM1 : Hid (x ∈ L) := List.mem_of_getElem? hx
            obtain ⟨b, o, rfl, n0, n1, n2, n3⟩ := (HL.out.below HBr.out).at4 (map_at hx)
            clear hx
            go_wp2_with (first
              | (go_at_call 209; refine Calls.mono (HC.out x HM1.out _ (by repeat (first | exact HBr.out | refine ext_set ?_ (by first | exact Nat.le_refl _ | exact HBr.out.size) | refine ext_alloc ?_ _))) ?_; rintro e w2 ⟨⟨rfl, h⟩ | ⟨rfl, h⟩, hb⟩)
              | fail)
            · have HD1 : Hid (∀ j x, j < q + 1 → L[j]? = some x → P x) := fun j y hj hy => by
                by_cases e : j = q
                · subst e
                  rw [HX.out] at hy
                  cases hy
                  exact h
                · exact HDo.out j y (by omega) hy
              have HB2 : Hid (Below w1.heap.size w1 w2) := xtransN (by repeat (first | exact HBr.out | refine ext_set ?_ (by first | exact Nat.le_refl _ | exact HBr.out.size) | refine ext_alloc ?_ _)) hb
              clear h hb
              go_wp2_with fail
              go_roundw
              case rel => exact ⟨q + 1, by go_num, by omega, HD1, HB2⟩
              case measure => simp [intOf]; omega
            · exact ⟨rfl, .inr ⟨rfl, by rw [HOK.out]; exact fun g => h (g.2 x HM1.out)⟩, xtransN (by repeat (first | exact HBr.out | refine ext_set ?_ (by first | exact Nat.le_refl _ | exact HBr.out.size) | refine ext_alloc ?_ _)) hb⟩
          · have hlt' : ¬ (q : Int) < (m : Int) := by omega
            go_wp2_with fail
            exact bodyPost_end (results_none rfl _ _ _) rfl ⟨.inl ⟨rfl, by
              rw [HOK.out, HM.out]
              refine ⟨⟨h1, h2⟩, fun x hx => ?_⟩
              obtain ⟨j, hj, e⟩ := List.getElem_of_mem hx
              have := HM.out
              exact HDo.out j x (by omega) (by rw [List.getElem?_eq_getElem hj, e])⟩, HBr.out⟩
      · exact absurd rfl h
    · go_enter Tryz.func208, Tryz.ntmps208
      go_wp2_with fail
      refine (must_ck _ _).mono ?_
      rintro e w1 ⟨⟨rfl, h⟩ | ⟨rfl, _⟩, rfl⟩
      · exact absurd h (by decide)
      · exact ⟨rfl, .inr ⟨rfl, by rw [HOK.out, HM.out]; exact fun g => by have h3 := g.1.2; omega⟩, Below.refl _ _⟩
  · go_enter Tryz.func208, Tryz.ntmps208
    go_wp2_with fail
    refine (must_ck _ _).mono ?_
    rintro e w1 ⟨⟨rfl, h⟩ | ⟨rfl, _⟩, rfl⟩
    · exact absurd h (by decide)
    · exact ⟨rfl, .inr ⟨rfl, by rw [HOK.out, HM.out]; exact fun g => by have h3 := g.1.1; omega⟩, Below.refl _ _⟩
set_option maxHeartbeats 3200000 in
theorem listWn (low high : Int) (a : Option Addr) (c : Nat) (L : List WaN) (P : WaN → Prop) (w : World) (hC : ∀ x ∈ L, ∀ W, Below w.heap.size w W → Calls Tryz.prog 210 #[x.val] W (CK (P x) W)) (hL : RowC w a 4 (L.map WaN.cl)) :
    Calls Tryz.prog 208 #[.slice a L.length c, .int .i64 low, .int .i64 high, .func (.func 210) #[] #[]] w (CK ((low ≤ (L.length : Int) ∧ (L.length : Int) ≤ high) ∧ ∀ x ∈ L, P x) w) := by
  have HL : Hid (RowC w a 4 (L.map WaN.cl)) := hL
  have HC : Hid (∀ x ∈ L, ∀ W, Below w.heap.size w W → Calls Tryz.prog 210 #[x.val] W (CK (P x) W)) := hC
  obtain ⟨ok, hok⟩ : ∃ ok : Prop, ((low ≤ (L.length : Int) ∧ (L.length : Int) ≤ high) ∧ ∀ x ∈ L, P x) = ok := ⟨_, rfl⟩
  have HOK : Hid (ok = ((low ≤ (L.length : Int) ∧ (L.length : Int) ≤ high) ∧ ∀ x ∈ L, P x)) := hok.symm
  obtain ⟨m, hm⟩ : ∃ m, L.length = m := ⟨_, rfl⟩
  have HM : Hid (L.length = m) := hm
  have hlen := hL.len
  rw [hm] at hlen
  rw [hok, hm]
  clear hok hm hL hC
  by_cases h1 : low ≤ (m : Int)
  · by_cases h2 : (m : Int) ≤ high
    · go_enter Tryz.func208, Tryz.ntmps208
      go_wp2_with fail
      refine (must_ck _ _).mono ?_
      rintro e w1 ⟨⟨rfl, _⟩ | ⟨rfl, h⟩, rfl⟩
      · go_wp2_with fail
        go_loopw [23] (fun iv wr => ∃ q : Nat, iv = .int .i64 q ∧ q ≤ m ∧ Hid (∀ j x, j < q → L[j]? = some x → P x) ∧ Hid (Below w1.heap.size w1 wr)) (fun iv _ => m - (intOf iv).toNat)
        case atStart => exact ⟨0, rfl, Nat.zero_le _, fun j x h => absurd h (by omega), Below.refl _ _⟩
        case round =>
          obtain ⟨q, rfl, hqm, HDo, HBr⟩ := hrel
          by_cases hlt : q < m
          · have hlt' : (q : Int) < (m : Int) := by omega
            obtain ⟨x, hx⟩ : ∃ x, L[q]? = some x := ⟨L[q]'(by rw [HM.out]; exact hlt), List.getElem?_eq_getElem _⟩
            have HX : Hid (L[q]? = some x) := hx
            have HM1 : Hid (x ∈ L) := List.mem_of_getElem? hx
            obtain ⟨b, o, rfl, n0, n1, n2, n3⟩ := (HL.out.below HBr.out).at4 (map_at hx)
            clear hx
            go_wp2_with (first
              | (go_at_call 210; refine Calls.mono (HC.out x HM1.out _ (by repeat (first | exact HBr.out | refine ext_set ?_ (by first | exact Nat.le_refl _ | exact HBr.out.size) | refine ext_alloc ?_ _))) ?_; rintro e w2 ⟨⟨rfl, h⟩ | ⟨rfl, h⟩, hb⟩)
              | fail)
            · have HD1 : Hid (∀ j x, j < q + 1 → L[j]? = some x → P x) := fun j y hj hy => by
                by_cases e : j = q
                · subst e
                  rw [HX.out] at hy
                  cases hy
                  exact h
                · exact HDo.out j y (by omega) hy
              have HB2 : Hid (Below w1.heap.size w1 w2) := xtransN (by repeat (first | exact HBr.out | refine ext_set ?_ (by first | exact Nat.le_refl _ | exact HBr.out.size) | refine ext_alloc ?_ _)) hb
              clear h hb
              go_wp2_with fail
              go_roundw
              case rel => exact ⟨q + 1, by go_num, by omega, HD1, HB2⟩
              case measure => simp [intOf]; omega
            · exact ⟨rfl, .inr ⟨rfl, by rw [HOK.out]; exact fun g => h (g.2 x HM1.out)⟩, xtransN (by repeat (first | exact HBr.out | refine ext_set ?_ (by first | exact Nat.le_refl _ | exact HBr.out.size) | refine ext_alloc ?_ _)) hb⟩
          · have hlt' : ¬ (q : Int) < (m : Int) := by omega
            go_wp2_with fail
            exact bodyPost_end (results_none rfl _ _ _) rfl ⟨.inl ⟨rfl, by
              rw [HOK.out, HM.out]
              refine ⟨⟨h1, h2⟩, fun x hx => ?_⟩
              obtain ⟨j, hj, e⟩ := List.getElem_of_mem hx
              have := HM.out
              exact HDo.out j x (by omega) (by rw [List.getElem?_eq_getElem hj, e])⟩, HBr.out⟩
      · exact absurd rfl h
    · go_enter Tryz.func208, Tryz.ntmps208
      go_wp2_with fail
      refine (must_ck _ _).mono ?_
      rintro e w1 ⟨⟨rfl, h⟩ | ⟨rfl, _⟩, rfl⟩
      · exact absurd h (by decide)
      · exact ⟨rfl, .inr ⟨rfl, by rw [HOK.out, HM.out]; exact fun g => by have h3 := g.1.2; omega⟩, Below.refl _ _⟩
  · go_enter Tryz.func208, Tryz.ntmps208
    go_wp2_with fail
    refine (must_ck _ _).mono ?_
    rintro e w1 ⟨⟨rfl, h⟩ | ⟨rfl, _⟩, rfl⟩
    · exact absurd h (by decide)
    · exact ⟨rfl, .inr ⟨rfl, by rw [HOK.out, HM.out]; exact fun g => by have h3 := g.1.1; omega⟩, Below.refl _ _⟩
set_option maxHeartbeats 3200000 in
theorem listPa (low high : Int) (a : Option Addr) (c : Nat) (L : List PaN) (P : PaN → Prop) (w : World) (hC : ∀ x ∈ L, ∀ W, Below w.heap.size w W → Calls Tryz.prog 219 #[x.val] W (CK (P x) W)) (hL : RowC w a 5 (L.map PaN.cl)) :
    Calls Tryz.prog 218 #[.slice a L.length c, .int .i64 low, .int .i64 high, .func (.func 219) #[] #[]] w (CK ((low ≤ (L.length : Int) ∧ (L.length : Int) ≤ high) ∧ ∀ x ∈ L, P x) w) := by
  have HL : Hid (RowC w a 5 (L.map PaN.cl)) := hL
  have HC : Hid (∀ x ∈ L, ∀ W, Below w.heap.size w W → Calls Tryz.prog 219 #[x.val] W (CK (P x) W)) := hC
  obtain ⟨ok, hok⟩ : ∃ ok : Prop, ((low ≤ (L.length : Int) ∧ (L.length : Int) ≤ high) ∧ ∀ x ∈ L, P x) = ok := ⟨_, rfl⟩
  have HOK : Hid (ok = ((low ≤ (L.length : Int) ∧ (L.length : Int) ≤ high) ∧ ∀ x ∈ L, P x)) := hok.symm
  obtain ⟨m, hm⟩ : ∃ m, L.length = m := ⟨_, rfl⟩
  have HM : Hid (L.length = m) := hm
  have hlen := hL.len
  rw [hm] at hlen
  rw [hok, hm]
  clear hok hm hL hC
  by_cases h1 : low ≤ (m : Int)
  · by_cases h2 : (m : Int) ≤ high
    · go_enter Tryz.func218, Tryz.ntmps218
      go_wp2_with fail
      refine (must_ck _ _).mono ?_
      rintro e w1 ⟨⟨rfl, _⟩ | ⟨rfl, h⟩, rfl⟩
      · go_wp2_with fail
        go_loopw [23] (fun iv wr => ∃ q : Nat, iv = .int .i64 q ∧ q ≤ m ∧ Hid (∀ j x, j < q → L[j]? = some x → P x) ∧ Hid (Below w1.heap.size w1 wr)) (fun iv _ => m - (intOf iv).toNat)
        case atStart => exact ⟨0, rfl, Nat.zero_le _, fun j x h => absurd h (by omega), Below.refl _ _⟩
        case round =>
          obtain ⟨q, rfl, hqm, HDo, HBr⟩ := hrel
          by_cases hlt : q < m
          · have hlt' : (q : Int) < (m : Int) := by omega
            obtain ⟨x, hx⟩ : ∃ x, L[q]? = some x := ⟨L[q]'(by rw [HM.out]; exact hlt), List.getElem?_eq_getElem _⟩
            have HX : Hid (L[q]? = some x) := hx
            have HM1 : Hid (x ∈ L) := List.mem_of_getElem? hx
            obtain ⟨b, o, rfl, n0, n1, n2, n3, n4⟩ := (HL.out.below HBr.out).at5 (map_at hx)
            clear hx
            go_wp2_with (first
              | (go_at_call 219; refine Calls.mono (HC.out x HM1.out _ (by repeat (first | exact HBr.out | refine ext_set ?_ (by first | exact Nat.le_refl _ | exact HBr.out.size) | refine ext_alloc ?_ _))) ?_; rintro e w2 ⟨⟨rfl, h⟩ | ⟨rfl, h⟩, hb⟩)
              | fail)
            · have HD1 : Hid (∀ j x, j < q + 1 → L[j]? = some x → P x) := fun j y hj hy => by
                by_cases e : j = q
                · subst e
                  rw [HX.out] at hy
                  cases hy
                  exact h
                · exact HDo.out j y (by omega) hy
              have HB2 : Hid (Below w1.heap.size w1 w2) := xtransN (by repeat (first | exact HBr.out | refine ext_set ?_ (by first | exact Nat.le_refl _ | exact HBr.out.size) | refine ext_alloc ?_ _)) hb
              clear h hb
              go_wp2_with fail
              go_roundw
              case rel => exact ⟨q + 1, by go_num, by omega, HD1, HB2⟩
              case measure => simp [intOf]; omega
            · exact ⟨rfl, .inr ⟨rfl, by rw [HOK.out]; exact fun g => h (g.2 x HM1.out)⟩, xtransN (by repeat (first | exact HBr.out | refine ext_set ?_ (by first | exact Nat.le_refl _ | exact HBr.out.size) | refine ext_alloc ?_ _)) hb⟩
          · have hlt' : ¬ (q : Int) < (m : Int) := by omega
            go_wp2_with fail
            exact bodyPost_end (results_none rfl _ _ _) rfl ⟨.inl ⟨rfl, by
              rw [HOK.out, HM.out]
              refine ⟨⟨h1, h2⟩, fun x hx => ?_⟩
              obtain ⟨j, hj, e⟩ := List.getElem_of_mem hx
              have := HM.out
              exact HDo.out j x (by omega) (by rw [List.getElem?_eq_getElem hj, e])⟩, HBr.out⟩
      · exact absurd rfl h
    · go_enter Tryz.func218, Tryz.ntmps218
      go_wp2_with fail
      refine (must_ck _ _).mono ?_
      rintro e w1 ⟨⟨rfl, h⟩ | ⟨rfl, _⟩, rfl⟩
      · exact absurd h (by decide)
      · exact ⟨rfl, .inr ⟨rfl, by rw [HOK.out, HM.out]; exact fun g => by have h3 := g.1.2; omega⟩, Below.refl _ _⟩
  · go_enter Tryz.func218, Tryz.ntmps218
    go_wp2_with fail
    refine (must_ck _ _).mono ?_
    rintro e w1 ⟨⟨rfl, h⟩ | ⟨rfl, _⟩, rfl⟩
    · exact absurd h (by decide)
    · exact ⟨rfl, .inr ⟨rfl, by rw [HOK.out, HM.out]; exact fun g => by have h3 := g.1.1; omega⟩, Below.refl _ _⟩
set_option maxHeartbeats 3200000 in
theorem listPn (low high : Int) (a : Option Addr) (c : Nat) (L : List PaN) (P : PaN → Prop) (w : World) (hC : ∀ x ∈ L, ∀ W, Below w.heap.size w W → Calls Tryz.prog 220 #[x.val] W (CK (P x) W)) (hL : RowC w a 5 (L.map PaN.cl)) :
    Calls Tryz.prog 218 #[.slice a L.length c, .int .i64 low, .int .i64 high, .func (.func 220) #[] #[]] w (CK ((low ≤ (L.length : Int) ∧ (L.length : Int) ≤ high) ∧ ∀ x ∈ L, P x) w) := by
  have HL : Hid (RowC w a 5 (L.map PaN.cl)) := hL
  have HC : Hid (∀ x ∈ L, ∀ W, Below w.heap.size w W → Calls Tryz.prog 220 #[x.val] W (CK (P x) W)) := hC
  obtain ⟨ok, hok⟩ : ∃ ok : Prop, ((low ≤ (L.length : Int) ∧ (L.length : Int) ≤ high) ∧ ∀ x ∈ L, P x) = ok := ⟨_, rfl⟩
  have HOK : Hid (ok = ((low ≤ (L.length : Int) ∧ (L.length : Int) ≤ high) ∧ ∀ x ∈ L, P x)) := hok.symm
  obtain ⟨m, hm⟩ : ∃ m, L.length = m := ⟨_, rfl⟩
  have HM : Hid (L.length = m) := hm
  have hlen := hL.len
  rw [hm] at hlen
  rw [hok, hm]
  clear hok hm hL hC
  by_cases h1 : low ≤ (m : Int)
  · by_cases h2 : (m : Int) ≤ high
    · go_enter Tryz.func218, Tryz.ntmps218
      go_wp2_with fail
      refine (must_ck _ _).mono ?_
      rintro e w1 ⟨⟨rfl, _⟩ | ⟨rfl, h⟩, rfl⟩
      · go_wp2_with fail
        go_loopw [23] (fun iv wr => ∃ q : Nat, iv = .int .i64 q ∧ q ≤ m ∧ Hid (∀ j x, j < q → L[j]? = some x → P x) ∧ Hid (Below w1.heap.size w1 wr)) (fun iv _ => m - (intOf iv).toNat)
        case atStart => exact ⟨0, rfl, Nat.zero_le _, fun j x h => absurd h (by omega), Below.refl _ _⟩
        case round =>
          obtain ⟨q, rfl, hqm, HDo, HBr⟩ := hrel
          by_cases hlt : q < m
          · have hlt' : (q : Int) < (m : Int) := by omega
            obtain ⟨x, hx⟩ : ∃ x, L[q]? = some x := ⟨L[q]'(by rw [HM.out]; exact hlt), List.getElem?_eq_getElem _⟩
            have HX : Hid (L[q]? = some x) := hx
            have HM1 : Hid (x ∈ L) := List.mem_of_getElem? hx
            obtain ⟨b, o, rfl, n0, n1, n2, n3, n4⟩ := (HL.out.below HBr.out).at5 (map_at hx)
            clear hx
            go_wp2_with (first
              | (go_at_call 220; refine Calls.mono (HC.out x HM1.out _ (by repeat (first | exact HBr.out | refine ext_set ?_ (by first | exact Nat.le_refl _ | exact HBr.out.size) | refine ext_alloc ?_ _))) ?_; rintro e w2 ⟨⟨rfl, h⟩ | ⟨rfl, h⟩, hb⟩)
              | fail)
            · have HD1 : Hid (∀ j x, j < q + 1 → L[j]? = some x → P x) := fun j y hj hy => by
                by_cases e : j = q
                · subst e
                  rw [HX.out] at hy
                  cases hy
                  exact h
                · exact HDo.out j y (by omega) hy
              have HB2 : Hid (Below w1.heap.size w1 w2) := xtransN (by repeat (first | exact HBr.out | refine ext_set ?_ (by first | exact Nat.le_refl _ | exact HBr.out.size) | refine ext_alloc ?_ _)) hb
              clear h hb
              go_wp2_with fail
              go_roundw
              case rel => exact ⟨q + 1, by go_num, by omega, HD1, HB2⟩
              case measure => simp [intOf]; omega
            · exact ⟨rfl, .inr ⟨rfl, by rw [HOK.out]; exact fun g => h (g.2 x HM1.out)⟩, xtransN (by repeat (first | exact HBr.out | refine ext_set ?_ (by first | exact Nat.le_refl _ | exact HBr.out.size) | refine ext_alloc ?_ _)) hb⟩
          · have hlt' : ¬ (q : Int) < (m : Int) := by omega
            go_wp2_with fail
            exact bodyPost_end (results_none rfl _ _ _) rfl ⟨.inl ⟨rfl, by
              rw [HOK.out, HM.out]
              refine ⟨⟨h1, h2⟩, fun x hx => ?_⟩
              obtain ⟨j, hj, e⟩ := List.getElem_of_mem hx
              have := HM.out
              exact HDo.out j x (by omega) (by rw [List.getElem?_eq_getElem hj, e])⟩, HBr.out⟩
      · exact absurd rfl h
    · go_enter Tryz.func218, Tryz.ntmps218
      go_wp2_with fail
      refine (must_ck _ _).mono ?_
      rintro e w1 ⟨⟨rfl, h⟩ | ⟨rfl, _⟩, rfl⟩
      · exact absurd h (by decide)
      · exact ⟨rfl, .inr ⟨rfl, by rw [HOK.out, HM.out]; exact fun g => by have h3 := g.1.2; omega⟩, Below.refl _ _⟩
  · go_enter Tryz.func218, Tryz.ntmps218
    go_wp2_with fail
    refine (must_ck _ _).mono ?_
    rintro e w1 ⟨⟨rfl, h⟩ | ⟨rfl, _⟩, rfl⟩
    · exact absurd h (by decide)
    · exact ⟨rfl, .inr ⟨rfl, by rw [HOK.out, HM.out]; exact fun g => by have h3 := g.1.1; omega⟩, Below.refl _ _⟩
set_option maxHeartbeats 3200000 in
theorem listSe (low high : Int) (a : Option Addr) (c : Nat) (L : List SeN) (P : SeN → Prop) (w : World) (hC : ∀ x ∈ L, ∀ W, Below w.heap.size w W → Calls Tryz.prog 281 #[x.val] W (CK (P x) W)) (hL : RowC w a 3 (L.map SeN.cl)) :
    Calls Tryz.prog 280 #[.slice a L.length c, .int .i64 low, .int .i64 high, .func (.func 281) #[] #[]] w (CK ((low ≤ (L.length : Int) ∧ (L.length : Int) ≤ high) ∧ ∀ x ∈ L, P x) w) := by
  have HL : Hid (RowC w a 3 (L.map SeN.cl)) := hL
  have HC : Hid (∀ x ∈ L, ∀ W, Below w.heap.size w W → Calls Tryz.prog 281 #[x.val] W (CK (P x) W)) := hC
  obtain ⟨ok, hok⟩ : ∃ ok : Prop, ((low ≤ (L.length : Int) ∧ (L.length : Int) ≤ high) ∧ ∀ x ∈ L, P x) = ok := ⟨_, rfl⟩
  have HOK : Hid (ok = ((low ≤ (L.length : Int) ∧ (L.length : Int) ≤ high) ∧ ∀ x ∈ L, P x)) := hok.symm
  obtain ⟨m, hm⟩ : ∃ m, L.length = m := ⟨_, rfl⟩
  have HM : Hid (L.length = m) := hm
  have hlen := hL.len
  rw [hm] at hlen
  rw [hok, hm]
  clear hok hm hL hC
  by_cases h1 : low ≤ (m : Int)
  · by_cases h2 : (m : Int) ≤ high
    · go_enter Tryz.func280, Tryz.ntmps280
      go_wp2_with fail
      refine (must_ck _ _).mono ?_
      rintro e w1 ⟨⟨rfl, _⟩ | ⟨rfl, h⟩, rfl⟩
      · go_wp2_with fail
        go_loopw [23] (fun iv wr => ∃ q : Nat, iv = .int .i64 q ∧ q ≤ m ∧ Hid (∀ j x, j < q → L[j]? = some x → P x) ∧ Hid (Below w1.heap.size w1 wr)) (fun iv _ => m - (intOf iv).toNat)
        case atStart => exact ⟨0, rfl, Nat.zero_le _, fun j x h => absurd h (by omega), Below.refl _ _⟩
        case round =>
          obtain ⟨q, rfl, hqm, HDo, HBr⟩ := hrel
          by_cases hlt : q < m
          · have hlt' : (q : Int) < (m : Int) := by omega
            obtain ⟨x, hx⟩ : ∃ x, L[q]? = some x := ⟨L[q]'(by rw [HM.out]; exact hlt), List.getElem?_eq_getElem _⟩
            have HX : Hid (L[q]? = some x) := hx
            have HM1 : Hid (x ∈ L) := List.mem_of_getElem? hx
            obtain ⟨b, o, rfl, n0, n1, n2⟩ := (HL.out.below HBr.out).at3 (map_at hx)
            clear hx
            go_wp2_with (first
              | (go_at_call 281; refine Calls.mono (HC.out x HM1.out _ (by repeat (first | exact HBr.out | refine ext_set ?_ (by first | exact Nat.le_refl _ | exact HBr.out.size) | refine ext_alloc ?_ _))) ?_; rintro e w2 ⟨⟨rfl, h⟩ | ⟨rfl, h⟩, hb⟩)
              | fail)
            · have HD1 : Hid (∀ j x, j < q + 1 → L[j]? = some x → P x) := fun j y hj hy => by
                by_cases e : j = q
                · subst e
                  rw [HX.out] at hy
                  cases hy
                  exact h
                · exact HDo.out j y (by omega) hy
              have HB2 : Hid (Below w1.heap.size w1 w2) := xtransN (by repeat (first | exact HBr.out | refine ext_set ?_ (by first | exact Nat.le_refl _ | exact HBr.out.size) | refine ext_alloc ?_ _)) hb
              clear h hb
              go_wp2_with fail
              go_roundw
              case rel => exact ⟨q + 1, by go_num, by omega, HD1, HB2⟩
              case measure => simp [intOf]; omega
            · exact ⟨rfl, .inr ⟨rfl, by rw [HOK.out]; exact fun g => h (g.2 x HM1.out)⟩, xtransN (by repeat (first | exact HBr.out | refine ext_set ?_ (by first | exact Nat.le_refl _ | exact HBr.out.size) | refine ext_alloc ?_ _)) hb⟩
          · have hlt' : ¬ (q : Int) < (m : Int) := by omega
            go_wp2_with fail
            exact bodyPost_end (results_none rfl _ _ _) rfl ⟨.inl ⟨rfl, by
              rw [HOK.out, HM.out]
              refine ⟨⟨h1, h2⟩, fun x hx => ?_⟩
              obtain ⟨j, hj, e⟩ := List.getElem_of_mem hx
              have := HM.out
              exact HDo.out j x (by omega) (by rw [List.getElem?_eq_getElem hj, e])⟩, HBr.out⟩
      · exact absurd rfl h
    · go_enter Tryz.func280, Tryz.ntmps280
      go_wp2_with fail
      refine (must_ck _ _).mono ?_
      rintro e w1 ⟨⟨rfl, h⟩ | ⟨rfl, _⟩, rfl⟩
      · exact absurd h (by decide)
      · exact ⟨rfl, .inr ⟨rfl, by rw [HOK.out, HM.out]; exact fun g => by have h3 := g.1.2; omega⟩, Below.refl _ _⟩
  · go_enter Tryz.func280, Tryz.ntmps280
    go_wp2_with fail
    refine (must_ck _ _).mono ?_
    rintro e w1 ⟨⟨rfl, h⟩ | ⟨rfl, _⟩, rfl⟩
    · exact absurd h (by decide)
    · exact ⟨rfl, .inr ⟨rfl, by rw [HOK.out, HM.out]; exact fun g => by have h3 := g.1.1; omega⟩, Below.refl _ _⟩
set_option maxHeartbeats 3200000 in
theorem listTg (low high : Int) (a : Option Addr) (c : Nat) (L : List TgN) (P : TgN → Prop) (w : World) (hC : ∀ x ∈ L, ∀ W, Below w.heap.size w W → Calls Tryz.prog 274 #[x.val] W (CK (P x) W)) (hL : RowC w a 5 (L.map TgN.cl)) :
    Calls Tryz.prog 273 #[.slice a L.length c, .int .i64 low, .int .i64 high, .func (.func 274) #[] #[]] w (CK ((low ≤ (L.length : Int) ∧ (L.length : Int) ≤ high) ∧ ∀ x ∈ L, P x) w) := by
  have HL : Hid (RowC w a 5 (L.map TgN.cl)) := hL
  have HC : Hid (∀ x ∈ L, ∀ W, Below w.heap.size w W → Calls Tryz.prog 274 #[x.val] W (CK (P x) W)) := hC
  obtain ⟨ok, hok⟩ : ∃ ok : Prop, ((low ≤ (L.length : Int) ∧ (L.length : Int) ≤ high) ∧ ∀ x ∈ L, P x) = ok := ⟨_, rfl⟩
  have HOK : Hid (ok = ((low ≤ (L.length : Int) ∧ (L.length : Int) ≤ high) ∧ ∀ x ∈ L, P x)) := hok.symm
  obtain ⟨m, hm⟩ : ∃ m, L.length = m := ⟨_, rfl⟩
  have HM : Hid (L.length = m) := hm
  have hlen := hL.len
  rw [hm] at hlen
  rw [hok, hm]
  clear hok hm hL hC
  by_cases h1 : low ≤ (m : Int)
  · by_cases h2 : (m : Int) ≤ high
    · go_enter Tryz.func273, Tryz.ntmps273
      go_wp2_with fail
      refine (must_ck _ _).mono ?_
      rintro e w1 ⟨⟨rfl, _⟩ | ⟨rfl, h⟩, rfl⟩
      · go_wp2_with fail
        go_loopw [23] (fun iv wr => ∃ q : Nat, iv = .int .i64 q ∧ q ≤ m ∧ Hid (∀ j x, j < q → L[j]? = some x → P x) ∧ Hid (Below w1.heap.size w1 wr)) (fun iv _ => m - (intOf iv).toNat)
        case atStart => exact ⟨0, rfl, Nat.zero_le _, fun j x h => absurd h (by omega), Below.refl _ _⟩
        case round =>
          obtain ⟨q, rfl, hqm, HDo, HBr⟩ := hrel
          by_cases hlt : q < m
          · have hlt' : (q : Int) < (m : Int) := by omega
            obtain ⟨x, hx⟩ : ∃ x, L[q]? = some x := ⟨L[q]'(by rw [HM.out]; exact hlt), List.getElem?_eq_getElem _⟩
            have HX : Hid (L[q]? = some x) := hx
            have HM1 : Hid (x ∈ L) := List.mem_of_getElem? hx
            obtain ⟨b, o, rfl, n0, n1, n2, n3, n4⟩ := (HL.out.below HBr.out).at5 (map_at hx)
            clear hx
            go_wp2_with (first
              | (go_at_call 274; refine Calls.mono (HC.out x HM1.out _ (by repeat (first | exact HBr.out | refine ext_set ?_ (by first | exact Nat.le_refl _ | exact HBr.out.size) | refine ext_alloc ?_ _))) ?_; rintro e w2 ⟨⟨rfl, h⟩ | ⟨rfl, h⟩, hb⟩)
              | fail)
            · have HD1 : Hid (∀ j x, j < q + 1 → L[j]? = some x → P x) := fun j y hj hy => by
                by_cases e : j = q
                · subst e
                  rw [HX.out] at hy
                  cases hy
                  exact h
                · exact HDo.out j y (by omega) hy
              have HB2 : Hid (Below w1.heap.size w1 w2) := xtransN (by repeat (first | exact HBr.out | refine ext_set ?_ (by first | exact Nat.le_refl _ | exact HBr.out.size) | refine ext_alloc ?_ _)) hb
              clear h hb
              go_wp2_with fail
              go_roundw
              case rel => exact ⟨q + 1, by go_num, by omega, HD1, HB2⟩
              case measure => simp [intOf]; omega
            · exact ⟨rfl, .inr ⟨rfl, by rw [HOK.out]; exact fun g => h (g.2 x HM1.out)⟩, xtransN (by repeat (first | exact HBr.out | refine ext_set ?_ (by first | exact Nat.le_refl _ | exact HBr.out.size) | refine ext_alloc ?_ _)) hb⟩
          · have hlt' : ¬ (q : Int) < (m : Int) := by omega
            go_wp2_with fail
            exact bodyPost_end (results_none rfl _ _ _) rfl ⟨.inl ⟨rfl, by
              rw [HOK.out, HM.out]
              refine ⟨⟨h1, h2⟩, fun x hx => ?_⟩
              obtain ⟨j, hj, e⟩ := List.getElem_of_mem hx
              have := HM.out
              exact HDo.out j x (by omega) (by rw [List.getElem?_eq_getElem hj, e])⟩, HBr.out⟩
      · exact absurd rfl h
    · go_enter Tryz.func273, Tryz.ntmps273
      go_wp2_with fail
      refine (must_ck _ _).mono ?_
      rintro e w1 ⟨⟨rfl, h⟩ | ⟨rfl, _⟩, rfl⟩
      · exact absurd h (by decide)
      · exact ⟨rfl, .inr ⟨rfl, by rw [HOK.out, HM.out]; exact fun g => by have h3 := g.1.2; omega⟩, Below.refl _ _⟩
  · go_enter Tryz.func273, Tryz.ntmps273
    go_wp2_with fail
    refine (must_ck _ _).mono ?_
    rintro e w1 ⟨⟨rfl, h⟩ | ⟨rfl, _⟩, rfl⟩
    · exact absurd h (by decide)
    · exact ⟨rfl, .inr ⟨rfl, by rw [HOK.out, HM.out]; exact fun g => by have h3 := g.1.1; omega⟩, Below.refl _ _⟩
set_option maxHeartbeats 3200000 in
theorem listIt (low high : Int) (a : Option Addr) (c : Nat) (L : List ItN) (P : ItN → Prop) (w : World) (hC : ∀ x ∈ L, ∀ W, Below w.heap.size w W → Calls Tryz.prog 229 #[x.val] W (CK (P x) W)) (hL : RowC w a 5 (L.map ItN.cl)) :
    Calls Tryz.prog 228 #[.slice a L.length c, .int .i64 low, .int .i64 high, .func (.func 229) #[] #[]] w (CK ((low ≤ (L.length : Int) ∧ (L.length : Int) ≤ high) ∧ ∀ x ∈ L, P x) w) := by
  have HL : Hid (RowC w a 5 (L.map ItN.cl)) := hL
  have HC : Hid (∀ x ∈ L, ∀ W, Below w.heap.size w W → Calls Tryz.prog 229 #[x.val] W (CK (P x) W)) := hC
  obtain ⟨ok, hok⟩ : ∃ ok : Prop, ((low ≤ (L.length : Int) ∧ (L.length : Int) ≤ high) ∧ ∀ x ∈ L, P x) = ok := ⟨_, rfl⟩
  have HOK : Hid (ok = ((low ≤ (L.length : Int) ∧ (L.length : Int) ≤ high) ∧ ∀ x ∈ L, P x)) := hok.symm
  obtain ⟨m, hm⟩ : ∃ m, L.length = m := ⟨_, rfl⟩
  have HM : Hid (L.length = m) := hm
  have hlen := hL.len
  rw [hm] at hlen
  rw [hok, hm]
  clear hok hm hL hC
  by_cases h1 : low ≤ (m : Int)
  · by_cases h2 : (m : Int) ≤ high
    · go_enter Tryz.func228, Tryz.ntmps228
      go_wp2_with fail
      refine (must_ck _ _).mono ?_
      rintro e w1 ⟨⟨rfl, _⟩ | ⟨rfl, h⟩, rfl⟩
      · go_wp2_with fail
        go_loopw [23] (fun iv wr => ∃ q : Nat, iv = .int .i64 q ∧ q ≤ m ∧ Hid (∀ j x, j < q → L[j]? = some x → P x) ∧ Hid (Below w1.heap.size w1 wr)) (fun iv _ => m - (intOf iv).toNat)
        case atStart => exact ⟨0, rfl, Nat.zero_le _, fun j x h => absurd h (by omega), Below.refl _ _⟩
        case round =>
          obtain ⟨q, rfl, hqm, HDo, HBr⟩ := hrel
          by_cases hlt : q < m
          · have hlt' : (q : Int) < (m : Int) := by omega
            obtain ⟨x, hx⟩ : ∃ x, L[q]? = some x := ⟨L[q]'(by rw [HM.out]; exact hlt), List.getElem?_eq_getElem _⟩
            have HX : Hid (L[q]? = some x) := hx
            have HM1 : Hid (x ∈ L) := List.mem_of_getElem? hx
            obtain ⟨b, o, rfl, n0, n1, n2, n3, n4⟩ := (HL.out.below HBr.out).at5 (map_at hx)
            clear hx
            go_wp2_with (first
              | (go_at_call 229; refine Calls.mono (HC.out x HM1.out _ (by repeat (first | exact HBr.out | refine ext_set ?_ (by first | exact Nat.le_refl _ | exact HBr.out.size) | refine ext_alloc ?_ _))) ?_; rintro e w2 ⟨⟨rfl, h⟩ | ⟨rfl, h⟩, hb⟩)
              | fail)
            · have HD1 : Hid (∀ j x, j < q + 1 → L[j]? = some x → P x) := fun j y hj hy => by
                by_cases e : j = q
                · subst e
                  rw [HX.out] at hy
                  cases hy
                  exact h
                · exact HDo.out j y (by omega) hy
              have HB2 : Hid (Below w1.heap.size w1 w2) := xtransN (by repeat (first | exact HBr.out | refine ext_set ?_ (by first | exact Nat.le_refl _ | exact HBr.out.size) | refine ext_alloc ?_ _)) hb
              clear h hb
              go_wp2_with fail
              go_roundw
              case rel => exact ⟨q + 1, by go_num, by omega, HD1, HB2⟩
              case measure => simp [intOf]; omega
            · exact ⟨rfl, .inr ⟨rfl, by rw [HOK.out]; exact fun g => h (g.2 x HM1.out)⟩, xtransN (by repeat (first | exact HBr.out | refine ext_set ?_ (by first | exact Nat.le_refl _ | exact HBr.out.size) | refine ext_alloc ?_ _)) hb⟩
          · have hlt' : ¬ (q : Int) < (m : Int) := by omega
            go_wp2_with fail
            exact bodyPost_end (results_none rfl _ _ _) rfl ⟨.inl ⟨rfl, by
              rw [HOK.out, HM.out]
              refine ⟨⟨h1, h2⟩, fun x hx => ?_⟩
              obtain ⟨j, hj, e⟩ := List.getElem_of_mem hx
              have := HM.out
              exact HDo.out j x (by omega) (by rw [List.getElem?_eq_getElem hj, e])⟩, HBr.out⟩
      · exact absurd rfl h
    · go_enter Tryz.func228, Tryz.ntmps228
      go_wp2_with fail
      refine (must_ck _ _).mono ?_
      rintro e w1 ⟨⟨rfl, h⟩ | ⟨rfl, _⟩, rfl⟩
      · exact absurd h (by decide)
      · exact ⟨rfl, .inr ⟨rfl, by rw [HOK.out, HM.out]; exact fun g => by have h3 := g.1.2; omega⟩, Below.refl _ _⟩
  · go_enter Tryz.func228, Tryz.ntmps228
    go_wp2_with fail
    refine (must_ck _ _).mono ?_
    rintro e w1 ⟨⟨rfl, h⟩ | ⟨rfl, _⟩, rfl⟩
    · exact absurd h (by decide)
    · exact ⟨rfl, .inr ⟨rfl, by rw [HOK.out, HM.out]; exact fun g => by have h3 := g.1.1; omega⟩, Below.refl _ _⟩
set_option maxHeartbeats 3200000 in
theorem listStr (low high : Int) (a : Option Addr) (c : Nat) (L : List ByteArray) (P : ByteArray → Prop) (w : World) (hC : ∀ x ∈ L, ∀ W, Below w.heap.size w W → Calls Tryz.prog 248 #[.string x] W (CK (P x) W)) (hL : RowC w a 1 (L.map strC)) :
    Calls Tryz.prog 247 #[.slice a L.length c, .int .i64 low, .int .i64 high, .func (.func 248) #[] #[]] w (CK ((low ≤ (L.length : Int) ∧ (L.length : Int) ≤ high) ∧ ∀ x ∈ L, P x) w) := by
  have HL : Hid (RowC w a 1 (L.map strC)) := hL
  have HC : Hid (∀ x ∈ L, ∀ W, Below w.heap.size w W → Calls Tryz.prog 248 #[.string x] W (CK (P x) W)) := hC
  obtain ⟨ok, hok⟩ : ∃ ok : Prop, ((low ≤ (L.length : Int) ∧ (L.length : Int) ≤ high) ∧ ∀ x ∈ L, P x) = ok := ⟨_, rfl⟩
  have HOK : Hid (ok = ((low ≤ (L.length : Int) ∧ (L.length : Int) ≤ high) ∧ ∀ x ∈ L, P x)) := hok.symm
  obtain ⟨m, hm⟩ : ∃ m, L.length = m := ⟨_, rfl⟩
  have HM : Hid (L.length = m) := hm
  have hlen := hL.len
  rw [hm] at hlen
  rw [hok, hm]
  clear hok hm hL hC
  by_cases h1 : low ≤ (m : Int)
  · by_cases h2 : (m : Int) ≤ high
    · go_enter Tryz.func247, Tryz.ntmps247
      go_wp2_with fail
      refine (must_ck _ _).mono ?_
      rintro e w1 ⟨⟨rfl, _⟩ | ⟨rfl, h⟩, rfl⟩
      · go_wp2_with fail
        go_loopw [23] (fun iv wr => ∃ q : Nat, iv = .int .i64 q ∧ q ≤ m ∧ Hid (∀ j x, j < q → L[j]? = some x → P x) ∧ Hid (Below w1.heap.size w1 wr)) (fun iv _ => m - (intOf iv).toNat)
        case atStart => exact ⟨0, rfl, Nat.zero_le _, fun j x h => absurd h (by omega), Below.refl _ _⟩
        case round =>
          obtain ⟨q, rfl, hqm, HDo, HBr⟩ := hrel
          by_cases hlt : q < m
          · have hlt' : (q : Int) < (m : Int) := by omega
            obtain ⟨x, hx⟩ : ∃ x, L[q]? = some x := ⟨L[q]'(by rw [HM.out]; exact hlt), List.getElem?_eq_getElem _⟩
            have HX : Hid (L[q]? = some x) := hx
            have HM1 : Hid (x ∈ L) := List.mem_of_getElem? hx
            obtain ⟨b, o, rfl, n0⟩ := (HL.out.below HBr.out).at1 (map_at hx)
            clear hx
            go_wp2_with (first
              | (go_at_call 248; refine Calls.mono (HC.out x HM1.out _ HBr.out) ?_; rintro e w2 ⟨⟨rfl, h⟩ | ⟨rfl, h⟩, hb⟩)
              | fail)
            · have HD1 : Hid (∀ j x, j < q + 1 → L[j]? = some x → P x) := fun j y hj hy => by
                by_cases e : j = q
                · subst e
                  rw [HX.out] at hy
                  cases hy
                  exact h
                · exact HDo.out j y (by omega) hy
              have HB2 : Hid (Below w1.heap.size w1 w2) := xtransN HBr.out hb
              clear h hb
              go_wp2_with fail
              go_roundw
              case rel => exact ⟨q + 1, by go_num, by omega, HD1, HB2⟩
              case measure => simp [intOf]; omega
            · exact ⟨rfl, .inr ⟨rfl, by rw [HOK.out]; exact fun g => h (g.2 x HM1.out)⟩, xtransN HBr.out hb⟩
          · have hlt' : ¬ (q : Int) < (m : Int) := by omega
            go_wp2_with fail
            exact bodyPost_end (results_none rfl _ _ _) rfl ⟨.inl ⟨rfl, by
              rw [HOK.out, HM.out]
              refine ⟨⟨h1, h2⟩, fun x hx => ?_⟩
              obtain ⟨j, hj, e⟩ := List.getElem_of_mem hx
              have := HM.out
              exact HDo.out j x (by omega) (by rw [List.getElem?_eq_getElem hj, e])⟩, HBr.out⟩
      · exact absurd rfl h
    · go_enter Tryz.func247, Tryz.ntmps247
      go_wp2_with fail
      refine (must_ck _ _).mono ?_
      rintro e w1 ⟨⟨rfl, h⟩ | ⟨rfl, _⟩, rfl⟩
      · exact absurd h (by decide)
      · exact ⟨rfl, .inr ⟨rfl, by rw [HOK.out, HM.out]; exact fun g => by have h3 := g.1.2; omega⟩, Below.refl _ _⟩
  · go_enter Tryz.func247, Tryz.ntmps247
    go_wp2_with fail
    refine (must_ck _ _).mono ?_
    rintro e w1 ⟨⟨rfl, h⟩ | ⟨rfl, _⟩, rfl⟩
    · exact absurd h (by decide)
    · exact ⟨rfl, .inr ⟨rfl, by rw [HOK.out, HM.out]; exact fun g => by have h3 := g.1.1; omega⟩, Below.refl _ _⟩
set_option maxHeartbeats 3200000 in
theorem listInt (low high : Int) (a : Option Addr) (c : Nat) (L : List Int) (P : Int → Prop) (w : World) (hC : ∀ x ∈ L, ∀ W, Below w.heap.size w W → Calls Tryz.prog 283 #[.int .i64 x] W (CK (P x) W)) (hL : RowC w a 1 (L.map intC)) :
    Calls Tryz.prog 282 #[.slice a L.length c, .int .i64 low, .int .i64 high, .func (.func 283) #[] #[]] w (CK ((low ≤ (L.length : Int) ∧ (L.length : Int) ≤ high) ∧ ∀ x ∈ L, P x) w) := by
  have HL : Hid (RowC w a 1 (L.map intC)) := hL
  have HC : Hid (∀ x ∈ L, ∀ W, Below w.heap.size w W → Calls Tryz.prog 283 #[.int .i64 x] W (CK (P x) W)) := hC
  obtain ⟨ok, hok⟩ : ∃ ok : Prop, ((low ≤ (L.length : Int) ∧ (L.length : Int) ≤ high) ∧ ∀ x ∈ L, P x) = ok := ⟨_, rfl⟩
  have HOK : Hid (ok = ((low ≤ (L.length : Int) ∧ (L.length : Int) ≤ high) ∧ ∀ x ∈ L, P x)) := hok.symm
  obtain ⟨m, hm⟩ : ∃ m, L.length = m := ⟨_, rfl⟩
  have HM : Hid (L.length = m) := hm
  have hlen := hL.len
  rw [hm] at hlen
  rw [hok, hm]
  clear hok hm hL hC
  by_cases h1 : low ≤ (m : Int)
  · by_cases h2 : (m : Int) ≤ high
    · go_enter Tryz.func282, Tryz.ntmps282
      go_wp2_with fail
      refine (must_ck _ _).mono ?_
      rintro e w1 ⟨⟨rfl, _⟩ | ⟨rfl, h⟩, rfl⟩
      · go_wp2_with fail
        go_loopw [23] (fun iv wr => ∃ q : Nat, iv = .int .i64 q ∧ q ≤ m ∧ Hid (∀ j x, j < q → L[j]? = some x → P x) ∧ Hid (Below w1.heap.size w1 wr)) (fun iv _ => m - (intOf iv).toNat)
        case atStart => exact ⟨0, rfl, Nat.zero_le _, fun j x h => absurd h (by omega), Below.refl _ _⟩
        case round =>
          obtain ⟨q, rfl, hqm, HDo, HBr⟩ := hrel
          by_cases hlt : q < m
          · have hlt' : (q : Int) < (m : Int) := by omega
            obtain ⟨x, hx⟩ : ∃ x, L[q]? = some x := ⟨L[q]'(by rw [HM.out]; exact hlt), List.getElem?_eq_getElem _⟩
            have HX : Hid (L[q]? = some x) := hx
            have HM1 : Hid (x ∈ L) := List.mem_of_getElem? hx
            obtain ⟨b, o, rfl, n0⟩ := (HL.out.below HBr.out).at1 (map_at hx)
            clear hx
            go_wp2_with (first
              | (go_at_call 283; refine Calls.mono (HC.out x HM1.out _ HBr.out) ?_; rintro e w2 ⟨⟨rfl, h⟩ | ⟨rfl, h⟩, hb⟩)
              | fail)
            · have HD1 : Hid (∀ j x, j < q + 1 → L[j]? = some x → P x) := fun j y hj hy => by
                by_cases e : j = q
                · subst e
                  rw [HX.out] at hy
                  cases hy
                  exact h
                · exact HDo.out j y (by omega) hy
              have HB2 : Hid (Below w1.heap.size w1 w2) := xtransN HBr.out hb
              clear h hb
              go_wp2_with fail
              go_roundw
              case rel => exact ⟨q + 1, by go_num, by omega, HD1, HB2⟩
              case measure => simp [intOf]; omega
            · exact ⟨rfl, .inr ⟨rfl, by rw [HOK.out]; exact fun g => h (g.2 x HM1.out)⟩, xtransN HBr.out hb⟩
          · have hlt' : ¬ (q : Int) < (m : Int) := by omega
            go_wp2_with fail
            exact bodyPost_end (results_none rfl _ _ _) rfl ⟨.inl ⟨rfl, by
              rw [HOK.out, HM.out]
              refine ⟨⟨h1, h2⟩, fun x hx => ?_⟩
              obtain ⟨j, hj, e⟩ := List.getElem_of_mem hx
              have := HM.out
              exact HDo.out j x (by omega) (by rw [List.getElem?_eq_getElem hj, e])⟩, HBr.out⟩
      · exact absurd rfl h
    · go_enter Tryz.func282, Tryz.ntmps282
      go_wp2_with fail
      refine (must_ck _ _).mono ?_
      rintro e w1 ⟨⟨rfl, h⟩ | ⟨rfl, _⟩, rfl⟩
      · exact absurd h (by decide)
      · exact ⟨rfl, .inr ⟨rfl, by rw [HOK.out, HM.out]; exact fun g => by have h3 := g.1.2; omega⟩, Below.refl _ _⟩
  · go_enter Tryz.func282, Tryz.ntmps282
    go_wp2_with fail
    refine (must_ck _ _).mono ?_
    rintro e w1 ⟨⟨rfl, h⟩ | ⟨rfl, _⟩, rfl⟩
    · exact absurd h (by decide)
    · exact ⟨rfl, .inr ⟨rfl, by rw [HOK.out, HM.out]; exact fun g => by have h3 := g.1.1; omega⟩, Below.refl _ _⟩
end Go.Proofs.YtdjfeomdiljaeaaGreatDoor
