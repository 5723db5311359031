/-
  view: whole.
-/
import Derived.Test.YtlbhnlpdijhmlaaVNote
namespace Go.Proofs.Ytlbhnlpdijhmlaa
open Go.RowKit
set_option linter.unusedVariables false
set_option linter.unusedSimpArgs false

set_option maxHeartbeats 6400000 in
set_option maxRecDepth 100000 in
theorem whole_4a (tn tp tb kind a b k n : Int) (ns cs : List Value) (h : AcAt cs kind a b ns k n) (k4 : kind = 4) (hm : Int.tmod a 2 = 0) (w : World) : Calls Try.prog 30 #[.agg #[.int .i64 tn, .int .i64 tp, .int .i64 tb], .agg cs.toArray] w fun e w' => e = .returned (.agg (.int .i64 1 :: .int .i64 tp :: .int .i64 b :: zeroCs).toArray) ∧ Below w.heap.size w w' := by
  obtain ⟨W, hWW⟩ : ∃ W, ((w.alloc (.cells #[.int .i64 tn, .int .i64 tp, .int .i64 tb] 28)).alloc (.cells cs.toArray 49)).alloc (.cells #[.int .i64 0, .int .i64 0, .int .i64 0, .int .i64 0, .int .i64 0, .int .i64 0, .int .i64 0, .int .i64 0, .int .i64 0, .int .i64 0, .int .i64 0, .int .i64 0, .int .i64 0, .int .i64 0, .slice none 0 0, .slice none 0 0, .int .i64 0, .int .i64 0, .int .i64 0, .slice none 0 0, .slice none 0 0, .slice none 0 0, .slice none 0 0, .string ⟨#[]⟩] 49) = W := ⟨_, rfl⟩
  have h3 := alloc3 (w := w) (a := #[.int .i64 tn, .int .i64 tp, .int .i64 tb]) (b := cs.toArray) (c := #[.int .i64 0, .int .i64 0, .int .i64 0, .int .i64 0, .int .i64 0, .int .i64 0, .int .i64 0, .int .i64 0, .int .i64 0, .int .i64 0, .int .i64 0, .int .i64 0, .int .i64 0, .int .i64 0, .slice none 0 0, .slice none 0 0, .int .i64 0, .int .i64 0, .int .i64 0, .slice none 0 0, .slice none 0 0, .slice none 0 0, .slice none 0 0, .string ⟨#[]⟩]) (t := 28) (u := 49) (s := 49)
  rw [hWW] at h3
  obtain ⟨g, hg⟩ : ∃ g, w.heap.size = g := ⟨_, rfl⟩
  rw [hg] at h3
  obtain ⟨t0, t1, t2⟩ := cells_3 h3.1
  have hr := range_of h3.2.1
  have c0 : W.cell? ⟨g + 1, 0, none⟩ = some (.int .i64 kind) := hr 0 _ (by rw [h.eq]; rfl)
  have c1 : W.cell? ⟨g + 1, 1, none⟩ = some (.int .i64 a) := hr 1 _ (by rw [h.eq]; rfl)
  have c2 : W.cell? ⟨g + 1, 2, none⟩ = some (.int .i64 b) := hr 2 _ (by rw [h.eq]; rfl)
  have HR : Hid (W.rangeAt (g + 1) 0 cs) := hr
  have HT : Hid (W.there (g + 1 + 1) 0 24) := there_of h3.2.2.1 (by decide)
  have HB : Hid (Below g w W ∧ w.heap.size = g) := ⟨h3.2.2.2.1, hg⟩
  have HW : Hid (((w.alloc (.cells #[.int .i64 tn, .int .i64 tp, .int .i64 tb] 28)).alloc (.cells cs.toArray 49)).alloc (.cells #[.int .i64 0, .int .i64 0, .int .i64 0, .int .i64 0, .int .i64 0, .int .i64 0, .int .i64 0, .int .i64 0, .int .i64 0, .int .i64 0, .int .i64 0, .int .i64 0, .int .i64 0, .int .i64 0, .slice none 0 0, .slice none 0 0, .int .i64 0, .int .i64 0, .int .i64 0, .slice none 0 0, .slice none 0 0, .slice none 0 0, .slice none 0 0, .string ⟨#[]⟩] 49) = W) := hWW
  have HL : Hid (cs.length = 24 ∧ ∀ v ∈ cs, v.oneCell' = true) := ⟨h.len, h.one⟩
  clear h3 hr hWW h
  have hm1 : (Int.tmod a 2 != 0) = false := by simpa using hm
  subst k4
  clear hm
  go_enter Try.func30, Try.ntmps30
  go_upto_region 1 with fail
  rw [HW.out]
  go_wp2_with (first
    | (refine wpList_store_mid rfl 49 _ _ rfl (g + 1 + 1) 0 (.int .i64 1 :: .int .i64 tp :: .int .i64 b :: zeroCs).toArray rfl rfl (by rw [List.size_toArray]; exact HT.out) (by rw [List.size_toArray]; exact Try.infoAct) (all_oneCell_toArray (by simp [Value.oneCell'])) ?_)
    | fail)
  refine bodyPost_ret (results_mid rfl _ _ (g + 1 + 1) (.int .i64 1 :: .int .i64 tp :: .int .i64 b :: zeroCs) _ rfl ?_ Try.underlying49 rfl Try.infoAct) rfl ⟨rfl, ?_⟩
  · have h9 := World.rangeAt_setCells_same W (g + 1 + 1) 0 (.int .i64 1 :: .int .i64 tp :: .int .i64 b :: zeroCs) (by exact HT.out)
    exact h9
  · rw [← hg]
    rw [← hg] at HB
    exact below_setCells HB.out.1 (by omega) (Nat.le_refl _) _ _
set_option maxHeartbeats 6400000 in
set_option maxRecDepth 100000 in
theorem whole_4b (tn tp tb kind a b k n : Int) (ns cs : List Value) (h : AcAt cs kind a b ns k n) (k4 : kind = 4) (hm : ¬ Int.tmod a 2 = 0) (w : World) : Calls Try.prog 30 #[.agg #[.int .i64 tn, .int .i64 tp, .int .i64 tb], .agg cs.toArray] w fun e w' => e = .returned (.agg (.int .i64 1 :: .int .i64 tb :: .int .i64 b :: zeroCs).toArray) ∧ Below w.heap.size w w' := by
  obtain ⟨W, hWW⟩ : ∃ W, ((w.alloc (.cells #[.int .i64 tn, .int .i64 tp, .int .i64 tb] 28)).alloc (.cells cs.toArray 49)).alloc (.cells #[.int .i64 0, .int .i64 0, .int .i64 0, .int .i64 0, .int .i64 0, .int .i64 0, .int .i64 0, .int .i64 0, .int .i64 0, .int .i64 0, .int .i64 0, .int .i64 0, .int .i64 0, .int .i64 0, .slice none 0 0, .slice none 0 0, .int .i64 0, .int .i64 0, .int .i64 0, .slice none 0 0, .slice none 0 0, .slice none 0 0, .slice none 0 0, .string ⟨#[]⟩] 49) = W := ⟨_, rfl⟩
  have h3 := alloc3 (w := w) (a := #[.int .i64 tn, .int .i64 tp, .int .i64 tb]) (b := cs.toArray) (c := #[.int .i64 0, .int .i64 0, .int .i64 0, .int .i64 0, .int .i64 0, .int .i64 0, .int .i64 0, .int .i64 0, .int .i64 0, .int .i64 0, .int .i64 0, .int .i64 0, .int .i64 0, .int .i64 0, .slice none 0 0, .slice none 0 0, .int .i64 0, .int .i64 0, .int .i64 0, .slice none 0 0, .slice none 0 0, .slice none 0 0, .slice none 0 0, .string ⟨#[]⟩]) (t := 28) (u := 49) (s := 49)
  rw [hWW] at h3
  obtain ⟨g, hg⟩ : ∃ g, w.heap.size = g := ⟨_, rfl⟩
  rw [hg] at h3
  obtain ⟨t0, t1, t2⟩ := cells_3 h3.1
  have hr := range_of h3.2.1
  have c0 : W.cell? ⟨g + 1, 0, none⟩ = some (.int .i64 kind) := hr 0 _ (by rw [h.eq]; rfl)
  have c1 : W.cell? ⟨g + 1, 1, none⟩ = some (.int .i64 a) := hr 1 _ (by rw [h.eq]; rfl)
  have c2 : W.cell? ⟨g + 1, 2, none⟩ = some (.int .i64 b) := hr 2 _ (by rw [h.eq]; rfl)
  have HR : Hid (W.rangeAt (g + 1) 0 cs) := hr
  have HT : Hid (W.there (g + 1 + 1) 0 24) := there_of h3.2.2.1 (by decide)
  have HB : Hid (Below g w W ∧ w.heap.size = g) := ⟨h3.2.2.2.1, hg⟩
  have HW : Hid (((w.alloc (.cells #[.int .i64 tn, .int .i64 tp, .int .i64 tb] 28)).alloc (.cells cs.toArray 49)).alloc (.cells #[.int .i64 0, .int .i64 0, .int .i64 0, .int .i64 0, .int .i64 0, .int .i64 0, .int .i64 0, .int .i64 0, .int .i64 0, .int .i64 0, .int .i64 0, .int .i64 0, .int .i64 0, .int .i64 0, .slice none 0 0, .slice none 0 0, .int .i64 0, .int .i64 0, .int .i64 0, .slice none 0 0, .slice none 0 0, .slice none 0 0, .slice none 0 0, .string ⟨#[]⟩] 49) = W) := hWW
  have HL : Hid (cs.length = 24 ∧ ∀ v ∈ cs, v.oneCell' = true) := ⟨h.len, h.one⟩
  clear h3 hr hWW h
  have hm1 : (Int.tmod a 2 != 0) = true := by simpa using hm
  subst k4
  clear hm
  go_enter Try.func30, Try.ntmps30
  go_upto_region 1 with fail
  rw [HW.out]
  go_wp2_with (first
    | (refine wpList_store_mid rfl 49 _ _ rfl (g + 1 + 1) 0 (.int .i64 1 :: .int .i64 tb :: .int .i64 b :: zeroCs).toArray rfl rfl (by rw [List.size_toArray]; exact HT.out) (by rw [List.size_toArray]; exact Try.infoAct) (all_oneCell_toArray (by simp [Value.oneCell'])) ?_)
    | fail)
  refine bodyPost_ret (results_mid rfl _ _ (g + 1 + 1) (.int .i64 1 :: .int .i64 tb :: .int .i64 b :: zeroCs) _ rfl ?_ Try.underlying49 rfl Try.infoAct) rfl ⟨rfl, ?_⟩
  · have h9 := World.rangeAt_setCells_same W (g + 1 + 1) 0 (.int .i64 1 :: .int .i64 tb :: .int .i64 b :: zeroCs) (by exact HT.out)
    exact h9
  · rw [← hg]
    rw [← hg] at HB
    exact below_setCells HB.out.1 (by omega) (Nat.le_refl _) _ _
set_option maxHeartbeats 6400000 in
set_option maxRecDepth 100000 in
theorem whole_5 (tn tp tb kind a b k n : Int) (ns cs : List Value) (h : AcAt cs kind a b ns k n) (k5 : kind = 5) (w : World) : Calls Try.prog 30 #[.agg #[.int .i64 tn, .int .i64 tp, .int .i64 tb], .agg cs.toArray] w fun e w' => e = .returned (.agg (.int .i64 2 :: .int .i64 tn :: .int .i64 tp :: zeroCs).toArray) ∧ Below w.heap.size w w' := by
  obtain ⟨W, hWW⟩ : ∃ W, ((w.alloc (.cells #[.int .i64 tn, .int .i64 tp, .int .i64 tb] 28)).alloc (.cells cs.toArray 49)).alloc (.cells #[.int .i64 0, .int .i64 0, .int .i64 0, .int .i64 0, .int .i64 0, .int .i64 0, .int .i64 0, .int .i64 0, .int .i64 0, .int .i64 0, .int .i64 0, .int .i64 0, .int .i64 0, .int .i64 0, .slice none 0 0, .slice none 0 0, .int .i64 0, .int .i64 0, .int .i64 0, .slice none 0 0, .slice none 0 0, .slice none 0 0, .slice none 0 0, .string ⟨#[]⟩] 49) = W := ⟨_, rfl⟩
  have h3 := alloc3 (w := w) (a := #[.int .i64 tn, .int .i64 tp, .int .i64 tb]) (b := cs.toArray) (c := #[.int .i64 0, .int .i64 0, .int .i64 0, .int .i64 0, .int .i64 0, .int .i64 0, .int .i64 0, .int .i64 0, .int .i64 0, .int .i64 0, .int .i64 0, .int .i64 0, .int .i64 0, .int .i64 0, .slice none 0 0, .slice none 0 0, .int .i64 0, .int .i64 0, .int .i64 0, .slice none 0 0, .slice none 0 0, .slice none 0 0, .slice none 0 0, .string ⟨#[]⟩]) (t := 28) (u := 49) (s := 49)
  rw [hWW] at h3
  obtain ⟨g, hg⟩ : ∃ g, w.heap.size = g := ⟨_, rfl⟩
  rw [hg] at h3
  obtain ⟨t0, t1, t2⟩ := cells_3 h3.1
  have hr := range_of h3.2.1
  have c0 : W.cell? ⟨g + 1, 0, none⟩ = some (.int .i64 kind) := hr 0 _ (by rw [h.eq]; rfl)
  have c1 : W.cell? ⟨g + 1, 1, none⟩ = some (.int .i64 a) := hr 1 _ (by rw [h.eq]; rfl)
  have c2 : W.cell? ⟨g + 1, 2, none⟩ = some (.int .i64 b) := hr 2 _ (by rw [h.eq]; rfl)
  have HR : Hid (W.rangeAt (g + 1) 0 cs) := hr
  have HT : Hid (W.there (g + 1 + 1) 0 24) := there_of h3.2.2.1 (by decide)
  have HB : Hid (Below g w W ∧ w.heap.size = g) := ⟨h3.2.2.2.1, hg⟩
  have HW : Hid (((w.alloc (.cells #[.int .i64 tn, .int .i64 tp, .int .i64 tb] 28)).alloc (.cells cs.toArray 49)).alloc (.cells #[.int .i64 0, .int .i64 0, .int .i64 0, .int .i64 0, .int .i64 0, .int .i64 0, .int .i64 0, .int .i64 0, .int .i64 0, .int .i64 0, .int .i64 0, .int .i64 0, .int .i64 0, .int .i64 0, .slice none 0 0, .slice none 0 0, .int .i64 0, .int .i64 0, .int .i64 0, .slice none 0 0, .slice none 0 0, .slice none 0 0, .slice none 0 0, .string ⟨#[]⟩] 49) = W) := hWW
  have HL : Hid (cs.length = 24 ∧ ∀ v ∈ cs, v.oneCell' = true) := ⟨h.len, h.one⟩
  clear h3 hr hWW h
  subst k5
  go_enter Try.func30, Try.ntmps30
  go_upto_region 1 with fail
  rw [HW.out]
  go_wp2_with (first
    | (refine wpList_store_mid rfl 49 _ _ rfl (g + 1 + 1) 0 (.int .i64 2 :: .int .i64 tn :: .int .i64 tp :: zeroCs).toArray rfl rfl (by rw [List.size_toArray]; exact HT.out) (by rw [List.size_toArray]; exact Try.infoAct) (all_oneCell_toArray (by simp [Value.oneCell'])) ?_)
    | fail)
  refine bodyPost_ret (results_mid rfl _ _ (g + 1 + 1) (.int .i64 2 :: .int .i64 tn :: .int .i64 tp :: zeroCs) _ rfl ?_ Try.underlying49 rfl Try.infoAct) rfl ⟨rfl, ?_⟩
  · have h9 := World.rangeAt_setCells_same W (g + 1 + 1) 0 (.int .i64 2 :: .int .i64 tn :: .int .i64 tp :: zeroCs) (by exact HT.out)
    exact h9
  · rw [← hg]
    rw [← hg] at HB
    exact below_setCells HB.out.1 (by omega) (Nat.le_refl _) _ _
set_option maxHeartbeats 6400000 in
set_option maxRecDepth 100000 in
theorem whole_6 (tn tp tb kind a b k n : Int) (ns cs : List Value) (h : AcAt cs kind a b ns k n) (k6 : kind = 6) (w : World) : Calls Try.prog 30 #[.agg #[.int .i64 tn, .int .i64 tp, .int .i64 tb], .agg cs.toArray] w fun e w' => e = .returned (.agg (.int .i64 3 :: .int .i64 tp :: .int .i64 0 :: [.int .i64 23, .int .i64 tn, .int .i64 0, .int .i64 0, .int .i64 0, .int .i64 0, .int .i64 0, .int .i64 0, .int .i64 0, .int .i64 0, .int .i64 0, .slice none 0 0, .slice none 0 0, .int .i64 0, .int .i64 0, .int .i64 0, .slice none 0 0, .slice none 0 0, .slice none 0 0, .slice none 0 0, .string ⟨#[]⟩]).toArray) ∧ Below w.heap.size w w' := by
  obtain ⟨W, hWW⟩ : ∃ W, ((w.alloc (.cells #[.int .i64 tn, .int .i64 tp, .int .i64 tb] 28)).alloc (.cells cs.toArray 49)).alloc (.cells #[.int .i64 0, .int .i64 0, .int .i64 0, .int .i64 0, .int .i64 0, .int .i64 0, .int .i64 0, .int .i64 0, .int .i64 0, .int .i64 0, .int .i64 0, .int .i64 0, .int .i64 0, .int .i64 0, .slice none 0 0, .slice none 0 0, .int .i64 0, .int .i64 0, .int .i64 0, .slice none 0 0, .slice none 0 0, .slice none 0 0, .slice none 0 0, .string ⟨#[]⟩] 49) = W := ⟨_, rfl⟩
  have h3 := alloc3 (w := w) (a := #[.int .i64 tn, .int .i64 tp, .int .i64 tb]) (b := cs.toArray) (c := #[.int .i64 0, .int .i64 0, .int .i64 0, .int .i64 0, .int .i64 0, .int .i64 0, .int .i64 0, .int .i64 0, .int .i64 0, .int .i64 0, .int .i64 0, .int .i64 0, .int .i64 0, .int .i64 0, .slice none 0 0, .slice none 0 0, .int .i64 0, .int .i64 0, .int .i64 0, .slice none 0 0, .slice none 0 0, .slice none 0 0, .slice none 0 0, .string ⟨#[]⟩]) (t := 28) (u := 49) (s := 49)
  rw [hWW] at h3
  obtain ⟨g, hg⟩ : ∃ g, w.heap.size = g := ⟨_, rfl⟩
  rw [hg] at h3
  obtain ⟨t0, t1, t2⟩ := cells_3 h3.1
  have hr := range_of h3.2.1
  have c0 : W.cell? ⟨g + 1, 0, none⟩ = some (.int .i64 kind) := hr 0 _ (by rw [h.eq]; rfl)
  have c1 : W.cell? ⟨g + 1, 1, none⟩ = some (.int .i64 a) := hr 1 _ (by rw [h.eq]; rfl)
  have c2 : W.cell? ⟨g + 1, 2, none⟩ = some (.int .i64 b) := hr 2 _ (by rw [h.eq]; rfl)
  have HR : Hid (W.rangeAt (g + 1) 0 cs) := hr
  have HT : Hid (W.there (g + 1 + 1) 0 24) := there_of h3.2.2.1 (by decide)
  have HB : Hid (Below g w W ∧ w.heap.size = g) := ⟨h3.2.2.2.1, hg⟩
  have HW : Hid (((w.alloc (.cells #[.int .i64 tn, .int .i64 tp, .int .i64 tb] 28)).alloc (.cells cs.toArray 49)).alloc (.cells #[.int .i64 0, .int .i64 0, .int .i64 0, .int .i64 0, .int .i64 0, .int .i64 0, .int .i64 0, .int .i64 0, .int .i64 0, .int .i64 0, .int .i64 0, .int .i64 0, .int .i64 0, .int .i64 0, .slice none 0 0, .slice none 0 0, .int .i64 0, .int .i64 0, .int .i64 0, .slice none 0 0, .slice none 0 0, .slice none 0 0, .slice none 0 0, .string ⟨#[]⟩] 49) = W) := hWW
  have HL : Hid (cs.length = 24 ∧ ∀ v ∈ cs, v.oneCell' = true) := ⟨h.len, h.one⟩
  clear h3 hr hWW h
  subst k6
  go_enter Try.func30, Try.ntmps30
  go_upto_region 1 with fail
  rw [HW.out]
  go_wp2_with (first
    | (refine wpList_store_mid rfl 49 _ _ rfl (g + 1 + 1) 0 (.int .i64 3 :: .int .i64 tp :: .int .i64 0 :: [.int .i64 23, .int .i64 tn, .int .i64 0, .int .i64 0, .int .i64 0, .int .i64 0, .int .i64 0, .int .i64 0, .int .i64 0, .int .i64 0, .int .i64 0, .slice none 0 0, .slice none 0 0, .int .i64 0, .int .i64 0, .int .i64 0, .slice none 0 0, .slice none 0 0, .slice none 0 0, .slice none 0 0, .string ⟨#[]⟩]).toArray rfl rfl (by rw [List.size_toArray]; exact HT.out) (by rw [List.size_toArray]; exact Try.infoAct) (all_oneCell_toArray (by simp [Value.oneCell'])) ?_)
    | fail)
  refine bodyPost_ret (results_mid rfl _ _ (g + 1 + 1) (.int .i64 3 :: .int .i64 tp :: .int .i64 0 :: [.int .i64 23, .int .i64 tn, .int .i64 0, .int .i64 0, .int .i64 0, .int .i64 0, .int .i64 0, .int .i64 0, .int .i64 0, .int .i64 0, .int .i64 0, .slice none 0 0, .slice none 0 0, .int .i64 0, .int .i64 0, .int .i64 0, .slice none 0 0, .slice none 0 0, .slice none 0 0, .slice none 0 0, .string ⟨#[]⟩]) _ rfl ?_ Try.underlying49 rfl Try.infoAct) rfl ⟨rfl, ?_⟩
  · have h9 := World.rangeAt_setCells_same W (g + 1 + 1) 0 (.int .i64 3 :: .int .i64 tp :: .int .i64 0 :: [.int .i64 23, .int .i64 tn, .int .i64 0, .int .i64 0, .int .i64 0, .int .i64 0, .int .i64 0, .int .i64 0, .int .i64 0, .int .i64 0, .int .i64 0, .slice none 0 0, .slice none 0 0, .int .i64 0, .int .i64 0, .int .i64 0, .slice none 0 0, .slice none 0 0, .slice none 0 0, .slice none 0 0, .string ⟨#[]⟩]) (by exact HT.out)
    exact h9
  · rw [← hg]
    rw [← hg] at HB
    exact below_setCells HB.out.1 (by omega) (Nat.le_refl _) _ _
set_option maxHeartbeats 6400000 in
set_option maxRecDepth 100000 in
theorem whole_e (tn tp tb kind a b k n : Int) (ns cs : List Value) (h : AcAt cs kind a b ns k n) (k4 : kind ≠ 4) (k5 : kind ≠ 5) (k6 : kind ≠ 6) (w : World) : Calls Try.prog 30 #[.agg #[.int .i64 tn, .int .i64 tp, .int .i64 tb], .agg cs.toArray] w fun e w' => e = .returned (.agg (cs).toArray) ∧ Below w.heap.size w w' := by
  obtain ⟨W, hWW⟩ : ∃ W, ((w.alloc (.cells #[.int .i64 tn, .int .i64 tp, .int .i64 tb] 28)).alloc (.cells cs.toArray 49)).alloc (.cells #[.int .i64 0, .int .i64 0, .int .i64 0, .int .i64 0, .int .i64 0, .int .i64 0, .int .i64 0, .int .i64 0, .int .i64 0, .int .i64 0, .int .i64 0, .int .i64 0, .int .i64 0, .int .i64 0, .slice none 0 0, .slice none 0 0, .int .i64 0, .int .i64 0, .int .i64 0, .slice none 0 0, .slice none 0 0, .slice none 0 0, .slice none 0 0, .string ⟨#[]⟩] 49) = W := ⟨_, rfl⟩
  have h3 := alloc3 (w := w) (a := #[.int .i64 tn, .int .i64 tp, .int .i64 tb]) (b := cs.toArray) (c := #[.int .i64 0, .int .i64 0, .int .i64 0, .int .i64 0, .int .i64 0, .int .i64 0, .int .i64 0, .int .i64 0, .int .i64 0, .int .i64 0, .int .i64 0, .int .i64 0, .int .i64 0, .int .i64 0, .slice none 0 0, .slice none 0 0, .int .i64 0, .int .i64 0, .int .i64 0, .slice none 0 0, .slice none 0 0, .slice none 0 0, .slice none 0 0, .string ⟨#[]⟩]) (t := 28) (u := 49) (s := 49)
  rw [hWW] at h3
  obtain ⟨g, hg⟩ : ∃ g, w.heap.size = g := ⟨_, rfl⟩
  rw [hg] at h3
  obtain ⟨t0, t1, t2⟩ := cells_3 h3.1
  have hr := range_of h3.2.1
  have c0 : W.cell? ⟨g + 1, 0, none⟩ = some (.int .i64 kind) := hr 0 _ (by rw [h.eq]; rfl)
  have c1 : W.cell? ⟨g + 1, 1, none⟩ = some (.int .i64 a) := hr 1 _ (by rw [h.eq]; rfl)
  have c2 : W.cell? ⟨g + 1, 2, none⟩ = some (.int .i64 b) := hr 2 _ (by rw [h.eq]; rfl)
  have HR : Hid (W.rangeAt (g + 1) 0 cs) := hr
  have HT : Hid (W.there (g + 1 + 1) 0 24) := there_of h3.2.2.1 (by decide)
  have HB : Hid (Below g w W ∧ w.heap.size = g) := ⟨h3.2.2.2.1, hg⟩
  have HW : Hid (((w.alloc (.cells #[.int .i64 tn, .int .i64 tp, .int .i64 tb] 28)).alloc (.cells cs.toArray 49)).alloc (.cells #[.int .i64 0, .int .i64 0, .int .i64 0, .int .i64 0, .int .i64 0, .int .i64 0, .int .i64 0, .int .i64 0, .int .i64 0, .int .i64 0, .int .i64 0, .int .i64 0, .int .i64 0, .int .i64 0, .slice none 0 0, .slice none 0 0, .int .i64 0, .int .i64 0, .int .i64 0, .slice none 0 0, .slice none 0 0, .slice none 0 0, .slice none 0 0, .string ⟨#[]⟩] 49) = W) := hWW
  have HL : Hid (cs.length = 24 ∧ ∀ v ∈ cs, v.oneCell' = true) := ⟨h.len, h.one⟩
  clear h3 hr hWW h
  have b4 : (kind == 4) = false := by simpa using k4
  have b5 : (kind == 5) = false := by simpa using k5
  have b6 : (kind == 6) = false := by simpa using k6
  clear k4 k5 k6
  go_enter Try.func30, Try.ntmps30
  go_upto_region 1 with fail
  rw [HW.out]
  go_wp2_with (first
    | (refine wpList_load_mid rfl 49 _ rfl (g + 1) 0 rfl cs _ HR.out Try.underlying49 rfl (by rw [HL.out.1]; exact Try.infoAct) ?_)
    | (refine wpList_store_mid rfl 49 _ _ rfl (g + 1 + 1) 0 (cs).toArray rfl rfl (by rw [List.size_toArray]; rw [HL.out.1]; exact HT.out) (by rw [List.size_toArray]; rw [HL.out.1]; exact Try.infoAct) (all_oneCell_toArray HL.out.2) ?_)
    | fail)
  refine bodyPost_ret (results_mid rfl _ _ (g + 1 + 1) (cs) _ rfl ?_ Try.underlying49 rfl (by rw [HL.out.1]; exact Try.infoAct)) rfl ⟨rfl, ?_⟩
  · have h9 := World.rangeAt_setCells_same W (g + 1 + 1) 0 (cs) (by rw [HL.out.1]; exact HT.out)
    exact h9
  · rw [← hg]
    rw [← hg] at HB
    exact below_setCells HB.out.1 (by omega) (Nat.le_refl _) _ _
theorem whole_any (t : VwT) (cs : List Value) (kind a b k n : Int) (ns : List Value) (h : AcAt cs kind a b ns k n) (w : World) : Calls Try.prog 30 #[vwV t, .agg cs.toArray] w fun e w' => e = .returned (.agg (wholeL t cs kind a b).toArray) ∧ Below w.heap.size w w' := by
  obtain ⟨tn, tp, tb⟩ := t
  unfold wholeL
  by_cases k4 : kind = 4
  · rw [if_pos k4]
    by_cases hm : Int.tmod a 2 = 0
    · rw [if_pos hm]
      exact whole_4a tn tp tb kind a b k n ns cs h k4 hm w
    · rw [if_neg hm]
      exact whole_4b tn tp tb kind a b k n ns cs h k4 hm w
  rw [if_neg k4]
  by_cases k5 : kind = 5
  · rw [if_pos k5]
    exact whole_5 tn tp tb kind a b k n ns cs h k5 w
  rw [if_neg k5]
  by_cases k6 : kind = 6
  · rw [if_pos k6]
    exact whole_6 tn tp tb kind a b k n ns cs h k6 w
  rw [if_neg k6]
  exact whole_e tn tp tb kind a b k n ns cs h k4 k5 k6 w
end Go.Proofs.Ytlbhnlpdijhmlaa
