/-
  shot: checks.
-/
import Derived.Test.YtjanlaphfkeejaaDoorCRefCheck
import Derived.Test.YtjanlaphfkeejaaDoorCGood
import Derived.Test.YtjanlaphfkeejaaDoorSTurn1
namespace Go.Proofs.YtjanlaphfkeejaaDoor
open Go.RowKit Classical
set_option linter.unusedVariables false
set_option linter.unusedSimpArgs false

theorem num_any (e0 : Int) (w : World) : Calls Tryd.prog 10 #[.int .i64 e0] w fun e w' => e = .returned (.int .i64 e0) ∧ w' = w := by
  go_enter Tryd.func10, Tryd.ntmps10
  go_wp2_with fail
  go_ret
  exact ⟨rfl, rfl⟩
/-- Two shots by value, in a frame. -/
structure TwoIn (w W : World) (A B : Array Value) : Prop where
  pa : W.heap[w.heap.size]? = some (.cells A 24 (0, 0))
  pb : W.heap[w.heap.size + 1]? = some (.cells B 24 (0, 0))
  low : Below w.heap.size w W
theorem TwoIn.start (w : World) (A B : Array Value) : TwoIn w ((w.alloc (.cells A 24)).alloc (.cells B 24)) A B := ⟨new_old (heap_alloc_new _ _) _, heap_new' (by simp), ((Below.refl _ _).alloc (Nat.le_refl _) _).alloc (by simp) _⟩
theorem TwoIn.below {w W W' : World} {A B : Array Value} (h : TwoIn w W A B) (hb : Below W.heap.size W W') : TwoIn w W' A B := ⟨kept_block hb h.pa, kept_block hb h.pb, trans2 h.low hb⟩
set_option maxHeartbeats 3200000 in
set_option maxRecDepth 100000 in
theorem checks_any (base g cap : Nat) (st : Int) (p : ByteArray) (k : Int) (l : List SeenT) (a : Option Addr) (c : Nat) (w : World) (hg : Ground w) (hr : w.ownsRow base 32 3 (.slice (some ⟨g, 0, none⟩) (l.length + 1) cap) (l.length + 1) (seCs l ++ markT.cells)) (hs : Ss w a l) (hl : l.length ≤ 1000) (hok : ∀ s ∈ l, s.p.size ≤ maxLen) :
    Calls Tryd.prog 6 #[.agg (shA st p k (some ⟨g, 0, none⟩) l.length cap), .agg (shA st p k a l.length c)] w fun e w' => e = .returned (.bool true) ∧ Below w.heap.size w w' := by
  have hcap := owns_cap hr
  have hml : l.length ≤ maxLen := by unfold maxLen; omega
  have HCH : Hid (∀ w', Below w.heap.size w w' → Calls Tryd.prog 8 #[.agg (shA st p k (some ⟨g, 0, none⟩) l.length cap)] w' fun e w'' => e = .returned (.int .i64 (chk st p k l)) ∧ Below w'.heap.size w' w'') := fun w' hb => check_any st p k _ cap l w' (hg.below hb) ((ss_of_owns hr).below hb) hok hml (by omega)
  have HRC : Hid (∀ w', Below w.heap.size w w' → Calls Tryd.prog 11 #[.agg (shA st p k a l.length c)] w' fun e w'' => e = .returned (.int .i64 (chk st p k l)) ∧ Below w'.heap.size w' w'') := fun w' hb => by rw [chk_eq]; exact refCheck_any st p k a c l w' (hs.below hb) hok hml
  have HUN : Hid (∀ w', Below w.heap.size w w' → Calls Tryd.prog 12 #[.agg (shA st p k (some ⟨g, 0, none⟩) l.length cap), .agg (shA st p k a l.length c)] w' fun e w'' => e = .returned (.bool true) ∧ Below w'.heap.size w' w'') := fun w' hb => untouched_any base g cap st p k l a c w' (owns_below hr hb) (hs.below hb) hl
  have H0 : Hid (TwoIn w _ (shA st p k (some ⟨g, 0, none⟩) l.length cap) (shA st p k a l.length c)) := TwoIn.start w (shA st p k (some ⟨g, 0, none⟩) l.length cap) (shA st p k a l.length c)
  obtain ⟨ck, hck⟩ : ∃ ck, chk st p k l = ck := ⟨_, rfl⟩
  rw [hck] at HCH HRC
  clear hr hs hg hok hck hml
  go_enter Tryd.func6, Tryd.ntmps6
  go_wp2_with fail
  refine (HCH.out _ H0.out.low).mono ?_
  rintro e w1 ⟨rfl, hb1⟩
  have H1 : Hid (TwoIn w w1 (shA st p k (some ⟨g, 0, none⟩) l.length cap) (shA st p k a l.length c)) := H0.out.below hb1
  obtain ⟨a0, a1, a2, a3⟩ := cells_4 H1.out.pa
  obtain ⟨b0, b1, b2, b3⟩ := cells_4 H1.out.pb
  clear hb1
  go_wp2_with fail
  go_region_held3 (fun w' => w'.cell? ⟨w.heap.size, 0, none⟩ = some (.int .i64 st) ∧ w'.cell? ⟨w.heap.size, 1, none⟩ = some (.string p) ∧ w'.cell? ⟨w.heap.size, 2, none⟩ = some (.int .i64 k) ∧ w'.cell? ⟨w.heap.size, 3, none⟩ = some (.slice (some ⟨g, 0, none⟩) l.length cap) ∧ w'.cell? ⟨w.heap.size + 1, 0, none⟩ = some (.int .i64 st) ∧ w'.cell? ⟨w.heap.size + 1, 1, none⟩ = some (.string p) ∧ w'.cell? ⟨w.heap.size + 1, 2, none⟩ = some (.int .i64 k) ∧ w'.cell? ⟨w.heap.size + 1, 3, none⟩ = some (.slice a l.length c)) (first | exact ⟨a0, a1, a2, a3, b0, b1, b2, b3⟩ | go_keep)
    (first
    | (go_at_call 12; refine (HUN.out _ H2.out.low).mono ?_; rintro e w3 ⟨rfl, hb3⟩
       have H3 : Hid (TwoIn w w3 (shA st p k (some ⟨g, 0, none⟩) l.length cap) (shA st p k a l.length c)) := H2.out.below hb3
       clear hb3 a0 a1 a2 a3 b0 b1 b2 b3
       obtain ⟨a0, a1, a2, a3⟩ := cells_4 H3.out.pa
       obtain ⟨b0, b1, b2, b3⟩ := cells_4 H3.out.pb)
    | (go_at_call 11; refine (HRC.out _ (below_drew H1.out.low)).mono ?_; rintro e w2 ⟨rfl, hb2⟩
       have H2 : Hid (TwoIn w w2 (shA st p k (some ⟨g, 0, none⟩) l.length cap) (shA st p k a l.length c)) := H1.out.below (of_drew hb2)
       clear hb2 a0 a1 a2 a3 b0 b1 b2 b3
       obtain ⟨a0, a1, a2, a3⟩ := cells_4 H2.out.pa
       obtain ⟨b0, b1, b2, b3⟩ := cells_4 H2.out.pb)
    | (go_at_call 10; refine (num_any _ _).mono ?_; rintro e w9 ⟨rfl, rfl⟩)
    | fail)
  go_wp2_with fail
  go_ret
  exact ⟨rfl, H3.out.low⟩
end Go.Proofs.YtjanlaphfkeejaaDoor
