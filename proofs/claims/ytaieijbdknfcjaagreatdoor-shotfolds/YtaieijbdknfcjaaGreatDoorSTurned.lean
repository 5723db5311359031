import Derived.Test.YtaieijbdknfcjaaGreatDoorSRoomy
namespace Go.Proofs.YtaieijbdknfcjaaGreatDoor
open Go.RowKit
set_option linter.unusedVariables false
set_option linter.unusedSimpArgs false

/-- w' is w but for the blocks of S and new ones. -/
structure Chg (w w' : World) (S : Nat → Prop) : Prop where
  os : w'.os = w.os
  tape : w'.tape = w.tape
  output : w'.output = w.output
  size : w.heap.size ≤ w'.heap.size
  block : ∀ k, k < w.heap.size → ¬ S k → w'.heap[k]? = w.heap[k]?

theorem Chg.trans {w w1 w2 : World} {S : Nat → Prop} (h : Chg w w1 S) (k : Chg w1 w2 S) : Chg w w2 S :=
  ⟨k.os.trans h.os, k.tape.trans h.tape, k.output.trans h.output, Nat.le_trans h.size k.size, fun i hi hs => (k.block i (Nat.lt_of_lt_of_le hi h.size) hs).trans (h.block i hi hs)⟩
theorem Chg.mono {w w' : World} {S S' : Nat → Prop} (h : Chg w w' S) (hs : ∀ k, k < w.heap.size → S k → S' k) : Chg w w' S' :=
  ⟨h.os, h.tape, h.output, h.size, fun k hk hn => h.block k hk (fun h' => hn (hs k hk h'))⟩
theorem Chg.refl (w : World) (S : Nat → Prop) : Chg w w S := ⟨rfl, rfl, rfl, Nat.le_refl _, fun _ _ _ => rfl⟩
theorem Chg.grown {w w' : World} {row : Option Nat} (h : w.grownBy w' row) : Chg w w' (fun k => row = some k) :=
  ⟨h.os, h.tape, h.output, h.size, fun k hk hn => h.block k hk (fun e => hn e.symm)⟩
theorem Chg.alloc (w : World) (o : Obj) (S : Nat → Prop) : Chg w (w.alloc o) S := (Chg.grown (World.grownBy_alloc w o none)).mono (fun _ _ h => by cases h)
theorem Chg.set (w : World) (a : Addr) (v : Value) : Chg w (w.setCell a v) (fun k => k = a.block) :=
  ⟨rfl, rfl, rfl, by simp, fun k _ hn => Below.heap_setCell w a v k hn⟩
theorem Chg.of_below {w w' : World} (h : Below w.heap.size w w') (S : Nat → Prop) : Chg w w' S := ⟨h.os, h.tape, h.output, h.size, fun k hk _ => h.block k hk⟩
theorem Chg.below {w w' : World} {S : Nat → Prop} {B : Nat} (h : Chg w w' S) (hB : B ≤ w.heap.size) (hs : ∀ k, k < w.heap.size → S k → B ≤ k) : Below B w w' :=
  ⟨h.os, h.tape, h.output, h.size, fun k hk => h.block k (Nat.lt_of_lt_of_le hk hB) (fun h' => by have := hs k (Nat.lt_of_lt_of_le hk hB) h'; omega)⟩


theorem owns_set {w : World} {B e s n g cap k : Nat} {xs : List Value} (h : w.ownsRow B e s (.slice (some ⟨g, 0, none⟩) n cap) n xs) (x : Value) : (w.setCell ⟨g, k, none⟩ x).ownsRow B e s (.slice (some ⟨g, 0, none⟩) n cap) n (xs.set k x) := by
  refine ⟨by rw [List.length_set]; exact h.1, ?_⟩
  rcases h.2 with ⟨h0, _⟩ | ⟨g', cap', cur, hv, hB, hg, hn, hc, hsz, ht⟩
  · cases h0
  · cases hv
    refine .inr ⟨g, cap, cur.setIfInBounds k x, rfl, hB, heap_setCell_same w g k cur e x hg, hn, hc, by simpa using hsz, ?_⟩
    rw [← ht, Array.toList_setIfInBounds, List.take_set]
theorem blk_of {w : World} {B e s n g cap : Nat} {xs : List Value} (h : w.ownsRow B e s (.slice (some ⟨g, 0, none⟩) n cap) n xs) (k : Nat) : w.frozen? ⟨g, k, none⟩ = false := by
  rcases h.2 with ⟨h0, _⟩ | ⟨g', cap', cur, hv, hB, hg, hn, hc, hsz, ht⟩
  · cases h0
  · cases hv
    simp [World.frozen?, hg]
abbrev pT : ByteArray := ⟨#[116, 117, 114, 110, 101, 100]⟩
def turn (s : SeenT) : SeenT := ⟨s.p, pT, 7⟩
theorem set_turn (A B : List SeenT) (o : SeenT) (q : Nat) (hq : A.length = q) (M : List Value) : ((seCs (A ++ o :: B) ++ M).set (q * 3 + 1) (.string pT)).set (q * 3 + 2) (.int .i64 7) = seCs (A ++ turn o :: B) ++ M := by
  have hl : (seCs A).length = q * 3 := by rw [seCs_len, hq]
  have e : ∀ o : SeenT, seCs (A ++ o :: B) ++ M = seCs A ++ (.string o.p :: .string o.d :: .int .i64 o.v :: (seCs B ++ M)) := fun o => by simp [seCs]
  rw [e, e, List.set_append_right _ _ (by omega), List.set_append_right _ _ (by omega), hl, show q * 3 + 1 - q * 3 = 1 by omega, show q * 3 + 2 - q * 3 = 2 by omega]
  rfl
def upTo (l : List SeenT) (q : Nat) : List SeenT := (l.take q).map turn ++ l.drop q
theorem upTo_zero (l : List SeenT) : upTo l 0 = l := by simp [upTo]
theorem upTo_all (l : List SeenT) : upTo l l.length = l.map turn := by simp [upTo]
theorem upTo_len (l : List SeenT) (q : Nat) : (upTo l q).length = l.length := by simp [upTo]; omega
theorem upTo_step {l : List SeenT} {q : Nat} (h : q < l.length) (M : List Value) : ((seCs (upTo l q) ++ M).set (q * 3 + 1) (.string pT)).set (q * 3 + 2) (.int .i64 7) = seCs (upTo l (q + 1)) ++ M := by
  have h1 : upTo l q = (l.take q).map turn ++ l[q] :: l.drop (q + 1) := by unfold upTo; rw [List.drop_eq_getElem_cons h]
  have h2 : upTo l (q + 1) = (l.take q).map turn ++ turn l[q] :: l.drop (q + 1) := by unfold upTo; rw [List.take_add_one, List.getElem?_eq_getElem h, Option.toList_some, List.map_append, List.append_assoc]; rfl
  rw [h1, h2]
  exact set_turn _ _ _ q (by simp; omega) M
theorem upTo_at {l : List SeenT} {q : Nat} (h : q < l.length) : (upTo l q)[q]? = some l[q] := by
  unfold upTo
  rw [List.getElem?_append_right (by simp; omega), List.drop_eq_getElem_cons h]
  simp [Nat.min_eq_left (Nat.le_of_lt h)]

set_option maxHeartbeats 3200000 in
set_option maxRecDepth 100000 in
theorem untouched_any (base g cap : Nat) (st : Int) (p : ByteArray) (k : Int) (l : List SeenT) (a : Option Addr) (c : Nat) (w : World) (hr : w.ownsRow base 36 3 (.slice (some ⟨g, 0, none⟩) (l.length + 1) cap) (l.length + 1) (seCs l ++ markT.cells)) (hs : Ss w a l) (hl : l.length ≤ 1000) :
    Calls Tryz.prog 16 #[.agg #[.int .i64 st, .string p, .int .i64 k, .slice (some ⟨g, 0, none⟩) l.length cap], .agg #[.int .i64 st, .string p, .int .i64 k, .slice a l.length c]] w fun e w' => e = .returned (.bool true) ∧ Below w.heap.size w w' := by
  have HB : Hid (Below w.heap.size w ((w.alloc (.cells #[.int .i64 st, .string p, .int .i64 k, .slice (some ⟨g, 0, none⟩) l.length cap] 24)).alloc (.cells #[.int .i64 st, .string p, .int .i64 k, .slice a l.length c] 24))) := ((Below.refl _ _).alloc (Nat.le_refl _) _).alloc (by simp) _
  have HQ : Hid (∀ w', Below w.heap.size w w' → Calls Tryz.prog 15 #[.agg #[.int .i64 st, .string p, .int .i64 k, .slice (some ⟨g, 0, none⟩) l.length cap], .agg #[.int .i64 st, .string p, .int .i64 k, .slice a l.length c]] w' fun e w'' => e = .returned (.bool true) ∧ Below w'.heap.size w' w'') := fun w' hb => (alike_any ⟨st, p, k, some ⟨g, 0, none⟩, cap, l⟩ ⟨st, p, k, a, c, l⟩ w' ((ss_of_owns hr).below hb) (hs.below hb) (by unfold maxLen; show l.length ≤ _; omega) rfl).mono (fun e w'' h => ⟨by rw [h.1]; simp, h.2⟩)
  have HM : Hid (∀ w', Calls Tryz.prog 11 #[] w' fun e w'' => e = .returned (.agg #[.string pB, .string ⟨#[]⟩, .int .i64 91]) ∧ Below w'.heap.size w' w'') := mark_any
  have HR : Hid (w.ownsRow base 36 3 (.slice (some ⟨g, 0, none⟩) (l.length + 1) cap) (l.length + 1) (seCs l ++ markT.cells)) := hr
  have hcap := owns_cap hr
  have hle : ((l.length : Int) + 1) ≤ (cap : Int) := by omega
  have hl1 : (l.length : Int) < (l.length : Int) + 1 := by omega
  have hl0 : (0 : Int) ≤ (l.length : Int) + 1 := by omega
  clear hr hs
  go_enter Tryz.func16, Tryz.ntmps16
  go_wp2_with fail
  have HA : Hid (((w.alloc (.cells #[.int .i64 st, .string p, .int .i64 k, .slice (some ⟨g, 0, none⟩) l.length cap] 24)).alloc (.cells #[.int .i64 st, .string p, .int .i64 k, .slice a l.length c] 24)).heap[w.heap.size]? = some (.cells #[.int .i64 st, .string p, .int .i64 k, .slice (some ⟨g, 0, none⟩) l.length cap] 24 (0, 0))) := new_old (heap_alloc_new _ _) _
  have HC : Hid (((w.alloc (.cells #[.int .i64 st, .string p, .int .i64 k, .slice (some ⟨g, 0, none⟩) l.length cap] 24)).alloc (.cells #[.int .i64 st, .string p, .int .i64 k, .slice a l.length c] 24)).heap[w.heap.size + 1]? = some (.cells #[.int .i64 st, .string p, .int .i64 k, .slice a l.length c] 24 (0, 0))) := heap_new' (by simp)
  have hms : ∀ w', Below w.heap.size w w' → w'.cell? ⟨g, l.length * 3, none⟩ = some (.string pB) ∧ w'.cell? ⟨g, l.length * 3 + 1, none⟩ = some (.string ⟨#[]⟩) ∧ w'.cell? ⟨g, l.length * 3 + 2, none⟩ = some (.int .i64 91) := fun w' hb => by
    have ho := owns_below HR.out hb
    have e : ∀ j, (seCs l ++ markT.cells)[l.length * 3 + j]? = markT.cells[j]? := fun j => by
      rw [List.getElem?_append_right (by rw [seCs_len]; omega), seCs_len]
      congr 1
      omega
    exact ⟨cell_n ho (k := l.length * 3) (e 0), cell_n ho (e 1), cell_n ho (e 2)⟩
  have HMS : Hid _ := hms
  obtain ⟨m0, m1, m2⟩ := hms _ HB.out
  obtain ⟨a0, a1, a2, a3⟩ := cells_4 HA.out
  obtain ⟨b0, b1, b2, b3⟩ := cells_4 HC.out
  clear hms
  go_region_held3 (fun w' => w'.cell? ⟨w.heap.size, 0, none⟩ = some (.int .i64 st) ∧ w'.cell? ⟨w.heap.size, 1, none⟩ = some (.string p) ∧ w'.cell? ⟨w.heap.size, 2, none⟩ = some (.int .i64 k) ∧ w'.cell? ⟨w.heap.size, 3, none⟩ = some (.slice (some ⟨g, 0, none⟩) l.length cap) ∧ w'.cell? ⟨w.heap.size + 1, 0, none⟩ = some (.int .i64 st) ∧ w'.cell? ⟨w.heap.size + 1, 1, none⟩ = some (.string p) ∧ w'.cell? ⟨w.heap.size + 1, 2, none⟩ = some (.int .i64 k) ∧ w'.cell? ⟨w.heap.size + 1, 3, none⟩ = some (.slice a l.length c) ∧ w'.cell? ⟨g, l.length * 3, none⟩ = some (.string pB) ∧ w'.cell? ⟨g, l.length * 3 + 1, none⟩ = some (.string ⟨#[]⟩) ∧ w'.cell? ⟨g, l.length * 3 + 2, none⟩ = some (.int .i64 91)) (first | go_keep | exact ⟨a0, a1, a2, a3, b0, b1, b2, b3, m0, m1, m2⟩)
    (first
    | (go_at_call 15; refine (HQ.out _ (below_drew HB.out)).mono ?_; rintro e w3 ⟨rfl, hb3⟩
       have HB3 : Hid (Below w.heap.size w w3) := trans2 (below_drew HB.out) hb3
       have HA3 : Hid _ := kept_block (W := World.drew _) hb3 HA.out
       have HC3 : Hid _ := kept_block (W := World.drew _) hb3 HC.out
       clear a0 a1 a2 a3 b0 b1 b2 b3 m0 m1 m2
       obtain ⟨m0, m1, m2⟩ := HMS.out _ HB3.out
       obtain ⟨a0, a1, a2, a3⟩ := cells_4 HA3.out
       obtain ⟨b0, b1, b2, b3⟩ := cells_4 HC3.out
       clear hb3)
    | (go_at_call 11; refine (HM.out _).mono ?_; rintro e w4 ⟨rfl, hb4⟩
       have HB4 : Hid (Below w.heap.size w w4) := trans2 HB3.out hb4
       have HA4 : Hid _ := kept_block hb4 HA3.out
       have HC4 : Hid _ := kept_block hb4 HC3.out
       clear a0 a1 a2 a3 b0 b1 b2 b3 m0 m1 m2
       obtain ⟨m0, m1, m2⟩ := HMS.out _ HB4.out
       obtain ⟨a0, a1, a2, a3⟩ := cells_4 HA4.out
       obtain ⟨b0, b1, b2, b3⟩ := cells_4 HC4.out
       clear hb4)
    | fail)
  go_wp2_with fail
  go_ret
  exact ⟨rfl, HB4.out⟩
end Go.Proofs.YtaieijbdknfcjaaGreatDoor
namespace Go.Proofs.YtaieijbdknfcjaaGreatDoor
open Go.RowKit
set_option linter.unusedVariables false
set_option linter.unusedSimpArgs false

theorem owns_form {w : World} {B e s n : Nat} {v : Value} {xs : List Value} (h : w.ownsRow B e s v n xs) : ∃ a c, v = .slice a n c ∧ (a = none → c = 0) := by
  rcases h.2 with ⟨rfl, rfl⟩ | ⟨g, cap, cur, rfl, _⟩
  · exact ⟨none, 0, rfl, fun _ => rfl⟩
  · exact ⟨_, _, rfl, fun h => by cases h⟩
theorem ss_of_row {w : World} {base n c : Nat} {a : Option Addr} {l : List SeenT} (h : w.ownsRow base 36 3 (.slice a n c) n (seCs l)) : Ss w a l := by
  cases a with
  | none =>
    rcases h.2 with ⟨_, rfl⟩ | ⟨g, cap, cur, hv, _⟩
    · have := h.1
      rw [seCs_len] at this
      exact .inl (List.eq_nil_of_length_eq_zero (by omega))
    · cases hv
  | some ad =>
    rcases h.2 with ⟨hv, _⟩ | ⟨g, cap, cur, hv, _⟩
    · cases hv
    · cases hv
      exact ss_of_owns (rest := []) (by rw [List.append_nil]; exact h)
theorem ss_chg {w w' : World} {S : Nat → Prop} {a : Option Addr} {l : List SeenT} (h : Ss w a l) (hc : Chg w w' S) (hs : ∀ b o, a = some ⟨b, o, none⟩ → ¬ S b) : Ss w' a l := by
  rcases h with h | ⟨b, o, ha, hlt, hx⟩
  · exact .inl h
  · refine .inr ⟨b, o, ha, Nat.lt_of_lt_of_le hlt hc.size, fun i s hi j x hj => ?_⟩
    rw [World.cell?_of_block (w := w) (hc.block b hlt (hs b o ha))]
    exact hx i s hi j x hj

set_option maxHeartbeats 3200000 in
set_option maxRecDepth 100000 in
theorem turned_any (base g cap : Nat) (st : Int) (p : ByteArray) (k : Int) (l : List SeenT) (w : World) (hr : w.ownsRow base 36 3 (.slice (some ⟨g, 0, none⟩) (l.length + 1) cap) (l.length + 1) (seCs l ++ markT.cells)) (hl : l.length ≤ 1000) :
    Calls Tryz.prog 9 #[.agg #[.int .i64 st, .string p, .int .i64 k, .slice (some ⟨g, 0, none⟩) l.length cap], .int .i64 0] w fun e w' => ∃ a c, e = .returned (.agg #[.int .i64 st, .string p, .int .i64 k, .slice a l.length c]) ∧ Ss w' a (l.map turn) ∧ (a = none → c = 0) ∧
      w'.ownsRow base 36 3 (.slice (some ⟨g, 0, none⟩) (l.length + 1) cap) (l.length + 1) (seCs (l.map turn) ++ markT.cells) ∧ Chg w w' (fun j => j = g) := by
  have hg := (hr.lt g rfl).2
  have HR : Hid (w.ownsRow base 36 3 (.slice (some ⟨g, 0, none⟩) (l.length + 1) cap) (l.length + 1) (seCs l ++ markT.cells)) := hr
  clear hr
  go_enter Tryz.func9, Tryz.ntmps9
  go_wp2_with fail
  go_loopw [6] (fun i wr => ∃ q : Nat, i = .int .i64 q ∧ q ≤ l.length ∧ Hid (wr.ownsRow base 36 3 (.slice (some ⟨g, 0, none⟩) (l.length + 1) cap) (l.length + 1) (seCs (upTo l q) ++ markT.cells)) ∧ Hid (wr.heap[w.heap.size]? = some (.cells #[.int .i64 st, .string p, .int .i64 k, .slice (some ⟨g, 0, none⟩) l.length cap] 24 (0, 0))) ∧ Hid (wr.heap[w.heap.size + 1]? = some (.cells #[.int .i64 0, .string ⟨#[]⟩, .int .i64 0, .slice none 0 0] 24 (0, 0))) ∧ Hid (Chg w wr (fun j => j = g))) (fun i _ => l.length - (intOf i).toNat)
  case atStart =>
    refine ⟨0, rfl, Nat.zero_le _, ?_, ?_, ?_, ?_⟩
    · show World.ownsRow _ _ _ _ _ _ _
      rw [upTo_zero]; exact World.ownsRow.alloc (World.ownsRow.alloc HR.out _) _
    · exact new_old (heap_alloc_new _ _) _
    · exact heap_new' (by simp)
    · exact (Chg.alloc _ _ _).trans (Chg.alloc _ _ _)
  case round =>
    obtain ⟨q, rfl, hq, HO, HA, HC, HG⟩ := hrel
    obtain ⟨a0, a1, a2, a3⟩ := cells_4 HA.out
    by_cases hlt : q < l.length
    · have hlt' : (q : Int) < (l.length : Int) := by omega
      have hx := upTo_at hlt
      have x1 := cell_n HO.out (seCs_at _ q 1 _ _ hx rfl _)
      have x2 := cell_n HO.out (seCs_at _ q 2 _ _ hx rfl _)
      have fz := blk_of HO.out
      have hne : ¬ w.heap.size = g := by omega
      have HO' : Hid _ := owns_set (k := q * 3 + 2) (owns_set (k := q * 3 + 1) HO.out (.string pT)) (.int .i64 7)
      clear hx
      go_wp2_with fail
      go_roundw
      case rel =>
        refine ⟨q + 1, by go_num, by omega, ?_, other_blk (other_blk HA.out hne) hne, other_blk (other_blk HC.out (by omega)) (by omega), (HG.out.trans (Chg.set _ _ _)).trans (Chg.set _ _ _)⟩
        have := HO'.out
        rw [upTo_step hlt] at this
        exact this
      case measure => simp [intOf]; omega
    · obtain rfl : q = l.length := by omega
      have hge : ¬ (l.length : Int) < (l.length : Int) := by omega
      rw [upTo_all] at HO
      have hsz : w.heap.size + 1 < wr.heap.size := lt_of_blk HC.out
      have HS : Hid (Ss wr (some ⟨g, 0, none⟩) (l.map turn)) := ss_of_owns HO.out
      have HML : Hid (l.length = (l.map turn).length) := by show _ = _; simp
      go_wp2_with (first
        | (at_builtin; refine wpList_app rfl _ _ rfl base (.slice none 0 0) 0 [] rfl (World.ownsRow_nil _ _ _ _) (some ⟨g, 0, none⟩) l.length cap (l.map turn) rfl HML.out HS.out (fun h => by cases h) (by rw [← HML.out]; omega) (by have := (HO.out.lt g rfl); omega) ?_
           intro v1 w1 ho1 hg1
           have hmm : 0 + (l.map turn).length = l.length := by rw [← HML.out]; omega
           rw [hmm, List.nil_append] at ho1
           clear hmm
           obtain ⟨a9, c9, rfl, hn9⟩ := owns_form ho1
           have HO1 : Hid (w1.ownsRow base 36 3 (.slice a9 l.length c9) l.length (seCs (l.map turn))) := ho1
           have HN9 : Hid _ := hn9
           clear hn9
           have HG1 : Hid _ := hg1
           have HA1 : Hid (w1.heap[w.heap.size]? = some (.cells #[.int .i64 st, .string p, .int .i64 k, .slice (some ⟨g, 0, none⟩) l.length cap] 24 (0, 0))) := by show _ = _; rw [hg1.block _ (by omega) (fun h => by cases h)]; exact HA.out
           have HC1 : Hid (w1.heap[w.heap.size + 1]? = some (.cells #[.int .i64 0, .string ⟨#[]⟩, .int .i64 0, .slice none 0 0] 24 (0, 0))) := by show _ = _; rw [hg1.block _ (by omega) (fun h => by cases h)]; exact HC.out
           have c4 := cells_4 HA1.out
           have f4 := free_4 HA1.out
           have r4 := cells_4 HC1.out
           have fr4 := free_4 HC1.out
           clear ho1 hg1)
        | fail)
      have hC1 : Chg w1 (put_4 (w1.setCell ⟨w.heap.size, 3, none⟩ (.slice a9 l.length c9)) (w.heap.size + 1) (.int .i64 st) (.string p) (.int .i64 k) (.slice a9 l.length c9)) (fun j => j = w.heap.size ∨ j = w.heap.size + 1) :=
        (((((Chg.set w1 ⟨w.heap.size, 3, none⟩ _).mono (fun _ _ h => .inl h)).trans ((Chg.set _ ⟨w.heap.size + 1, 0, none⟩ _).mono (fun _ _ h => .inr h))).trans ((Chg.set _ ⟨w.heap.size + 1, 1, none⟩ _).mono (fun _ _ h => .inr h))).trans ((Chg.set _ ⟨w.heap.size + 1, 2, none⟩ _).mono (fun _ _ h => .inr h))).trans ((Chg.set _ ⟨w.heap.size + 1, 3, none⟩ _).mono (fun _ _ h => .inr h))
      have hnot : ∀ (v : Value) (n : Nat) (xs : List Value), w1.ownsRow base 36 3 v n xs → ∀ j, v.ownBlock = some j → ¬ (j = w.heap.size ∨ j = w.heap.size + 1) := fun v n xs hv j hj e => by
        obtain ⟨cur, hc⟩ := owns_kind hv hj
        rcases e with e | e
        · have := HA1.out
          rw [← e, hc] at this
          cases this
        · have := HC1.out
          rw [← e, hc] at this
          cases this
      have hrow1 : w1.ownsRow base 36 3 (.slice (some ⟨g, 0, none⟩) (l.length + 1) cap) (l.length + 1) (seCs (l.map turn) ++ markT.cells) := owns_same HO.out (fun j hj => HG1.out.block j (HO.out.lt j hj).2 (fun h => by cases h))
      have hO9 := owns_same HO1.out (fun j hj => hC1.block j (HO1.out.lt j hj).2 (hnot _ _ _ HO1.out j hj))
      have hOg := owns_same hrow1 (fun j hj => hC1.block j (hrow1.lt j hj).2 (hnot _ _ _ hrow1 j hj))
      refine bodyPost_ret (results_cell_row rfl _ _ (w.heap.size + 1) 24 _ (0, 0) _ rfl (fill_4 (other_blk HC1.out (by omega))) Tryz.underlying24 rfl (by kernel_rfl)) rfl ⟨a9, c9, rfl, ss_of_row hO9, HN9.out, hOg, ?_⟩
      have hgr : Chg wr w1 (fun j => j = g) := (Chg.grown HG1.out).mono (fun j _ h => by cases h)
      refine ⟨?_, ?_, ?_, ?_, fun j hj hn => ?_⟩
      · exact hC1.os.trans (hgr.os.trans HG.out.os)
      · exact hC1.tape.trans (hgr.tape.trans HG.out.tape)
      · exact hC1.output.trans (hgr.output.trans HG.out.output)
      · exact Nat.le_trans HG.out.size (Nat.le_trans hgr.size hC1.size)
      · rw [hC1.block j (by have := hgr.size; omega) (by omega), hgr.block j (by omega) hn, HG.out.block j hj hn]
end Go.Proofs.YtaieijbdknfcjaaGreatDoor
