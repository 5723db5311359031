/-
  shot: Encode.
-/
import Derived.Test.YtkmiemjjedbnaaaDoorEShot
import Derived.Test.YtkmiemjjedbnaaaDoorCGood
namespace Go.Proofs.YtkmiemjjedbnaaaDoor
open Go.RowKit Classical
set_option linter.unusedVariables false
set_option linter.unusedSimpArgs false

theorem isP_size {x : ByteArray} (h : isP x = true) : x.size ≤ 102 := by
  obtain ⟨⟨c, xs⟩, hp⟩ : ∃ q, parse x = q := ⟨_, rfl⟩
  have hc : c = 0 := by have := isP_iff.1 h; rw [hp] at this; exact this
  subst hc
  have hl := parse_len hp
  rw [← parse_back hp]
  exact place_size hl.1 hl.2
structure Sized (st : Int) (p : ByteArray) (k : Int) (l : List SeenT) : Prop where
  st : 0 ≤ st ∧ st ≤ 2147483647
  p : p.size ≤ 102
  k : 1 ≤ k ∧ k ≤ 3
  len : l.length ≤ 64
  each : ∀ s ∈ l, s.p.size ≤ 102 ∧ s.d.size ≤ 64 ∧ 0 ≤ s.v ∧ s.v ≤ 2147483647
  asc : Asc l
theorem sized_of_good {st : Int} {p : ByteArray} {k : Int} {l : List SeenT} (h : Good st p k l) : Sized st p k l := by
  have h1 : 0 ≤ st ∧ st ≤ 2147483647 := by have := h.1; simpa [isNum] using this
  obtain ⟨h2, h3, h4⟩ := (cov_self k p).1 h.2.1
  refine ⟨h1, isP_size h2, ⟨h3, h4⟩, h.2.2.1, fun s hs => ?_, ?_⟩
  · obtain ⟨i, hi⟩ := List.getElem?_of_mem hs
    have hm := h.2.2.2.2 i s hi
    unfold mayB at hm
    simp only [Bool.and_eq_true] at hm
    have hc := (cov_in h2 ⟨h3, h4⟩).1 hm.1.1.1
    have hf := hm.1.1.2
    unfold fitB isNum at hf
    simp only [Bool.and_eq_true, decide_eq_true_eq] at hf
    exact ⟨isP_size hc.1, hf.1, hf.2.1, hf.2.2⟩
  · have := asc_of_may (k := k) (p := p) (l := l) l.length (Nat.le_refl _) (fun i n _ hn => h.2.2.2.2 i n hn)
    rw [List.take_length] at this
    exact this
theorem eok_of_good {st : Int} {p : ByteArray} {k : Int} {l : List SeenT} (h : Good st p k l) : EOk st p k l := by
  have s := sized_of_good h
  exact ⟨s.st, by have := s.p; omega, by have := s.k; omega, s.len, fun x hx => by have := s.each x hx; omega⟩
set_option maxHeartbeats 3200000 in
set_option maxRecDepth 100000 in
theorem encode_any (st : Int) (p : ByteArray) (k : Int) (a : Option Addr) (c n : Nat) (l : List SeenT) (w : World) (hn : l.length = n) (hg : Ground w) (hs : Ss w a l) (hok : ∀ s ∈ l, s.p.size ≤ maxLen) (hl : n ≤ maxLen) (hc : n ≤ c) :
    Calls Tryd.prog 11 #[.agg (shA st p k a n c)] w fun e w' => ∃ a' c' zs, e = .returned (.tuple #[.slice a' zs.length c', .int .i64 (chk st p k l)]) ∧ (Good st p k l → zs = shotL st p k l) ∧ (¬ Good st p k l → zs = []) ∧ Bys w' a' zs ∧ Below w.heap.size w w' := by
  subst hn
  have HB0 : Hid (Below w.heap.size w (w.alloc (.cells (shA st p k a l.length c) 24))) := (Below.refl _ _).alloc (Nat.le_refl _) _
  have HA0 : Hid ((w.alloc (.cells (shA st p k a l.length c) 24)).heap[w.heap.size]? = some (.cells (shA st p k a l.length c) 24 (0, 0))) := heap_alloc_new _ _
  have HCH : Hid _ := check_any st p k a c l (w.alloc (.cells (shA st p k a l.length c) 24)) (hg.below HB0.out) (hs.below HB0.out) hok hl hc
  have HS : Hid (Ss w a l) := hs
  clear hok hl hc hg hs
  by_cases hgd : Good st p k l
  · rw [chk_good hgd] at HCH ⊢
    have HGD : Hid (Good st p k l) := hgd
    have HOK : Hid (EOk st p k l) := eok_of_good hgd
    obtain ⟨sn, rfl⟩ : ∃ sn : Nat, st = sn := ⟨st.toNat, by have := (eok_of_good hgd).st; omega⟩
    obtain ⟨kn, rfl⟩ : ∃ kn : Nat, k = kn := ⟨k.toNat, by have := (eok_of_good hgd).k; omega⟩
    clear hgd
    go_enter Tryd.func11, Tryd.ntmps11
    go_wp2_with fail
    refine Calls.mono HCH.out ?_
    rintro e w1 ⟨rfl, hb1⟩
    have HB1 : Hid (Below w.heap.size w w1) := trans2 HB0.out hb1
    have HA1 : Hid (w1.heap[w.heap.size]? = some (.cells (shA sn p kn a l.length c) 24 (0, 0))) := kept_block hb1 HA0.out
    have HB2 : Hid (Below w.heap.size w (w1.alloc (.cells #[.slice none 0 0] 55))) := HB1.out.alloc HB1.out.size _
    have HW2 : Hid (WrAt (w1.alloc (.cells #[.slice none 0 0] 55)) w.heap.size w1.heap.size (.slice none 0 0) []) := ⟨heap_alloc_new _ _, World.ownsRow_nil _ _ _ _, HB1.out.size⟩
    have HA2 : Hid ((w1.alloc (.cells #[.slice none 0 0] 55)).heap[w.heap.size]? = some (.cells (shA sn p kn a l.length c) 24 (0, 0))) := new_old HA1.out _
    obtain ⟨a0, a1, a2, a3⟩ := cells_4 HA2.out
    clear hb1
    go_wp2_with fail
    refine (wShot_any w.heap.size w1.heap.size (.slice none 0 0) sn p kn a c l.length l _ HW2.out HB2.out.size (HS.out.below HB2.out) (fun hl b o ha => ?_) HOK.out rfl).mono ?_
    · rcases HS.out with h | ⟨b', o', ha', hlt, _⟩
      · exact absurd h hl
      · rw [ha'] at ha
        cases ha
        exact hlt
    rintro e w3 ⟨v3, rfl, hw3, hb3⟩
    have HB3 : Hid (Below w.heap.size w w3) := HB2.out.trans hb3
    obtain ⟨ra, rc, rfl, hby, _⟩ := bys_of_owns hw3.row
    have HBY : Hid (Bys w3 ra (shotL sn p kn l)) := hby
    have b0 := cells_1 hw3.box
    clear hw3 hb3 hby a0 a1 a2 a3
    go_wp2_with fail
    go_ret2
    exact ⟨ra, rc, shotL sn p kn l, rfl, fun _ => rfl, fun h => absurd HGD.out h, HBY.out, HB3.out⟩
  · rw [chk_bad hgd] at HCH ⊢
    have HGD : Hid (¬ Good st p k l) := hgd
    clear hgd
    go_enter Tryd.func11, Tryd.ntmps11
    go_wp2_with fail
    refine Calls.mono HCH.out ?_
    rintro e w1 ⟨rfl, hb1⟩
    have HB1 : Hid (Below w.heap.size w w1) := trans2 HB0.out hb1
    clear hb1
    go_wp2_with fail
    go_ret2
    exact ⟨none, 0, [], rfl, fun h => absurd h HGD.out, fun _ => rfl, .inl rfl, HB1.out⟩
end Go.Proofs.YtkmiemjjedbnaaaDoor
