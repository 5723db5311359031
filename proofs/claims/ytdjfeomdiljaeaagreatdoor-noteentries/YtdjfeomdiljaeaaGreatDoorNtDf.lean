import Derived.Test.YtdjfeomdiljaeaaGreatDoorNtRo
namespace Go.Proofs.YtdjfeomdiljaeaaGreatDoor
open Go.RowKit
set_option linter.unusedVariables false
set_option linter.unusedSimpArgs false

theorem EnN.Eq.ok {x y : EnN} (h : EnN.Eq x y) (hy : y.Ok) : x.Ok := by
  obtain ⟨st, vw, K, se, rq, opsA, opsC, ops⟩ := x
  obtain ⟨st', vw', K', se', rq', opsA', opsC', ops'⟩ := y
  obtain ⟨rfl, rfl, rfl, rfl, rfl, rfl⟩ := h
  exact hy
theorem at_owns {W : World} {B : Nat} {x : EnN} (h : W.ownsRow B 60 5 (.slice x.opsA x.ops.length x.opsC) x.ops.length (opCs x.ops)) (hl : x.ops.length ≤ maxLen) : x.At W := by
  refine ⟨ownsC (f := OpN.cl) (k := 5) (fun _ => rfl) hl h rfl, ?_⟩
  obtain ⟨a, c, e, _, hc, _⟩ := owns_sl h
  injection e with e1 e2 e3
  omega
abbrev zEn : EnN := ⟨0, 0, 0, 0, 0, none, 0, []⟩
theorem zEn_at (W : World) : zEn.At W := ⟨⟨by decide, .inl rfl⟩, Nat.le_refl _⟩
set_option maxHeartbeats 6400000 in
set_option maxRecDepth 100000 in
theorem dec1_any (bd : Nat) (a : Option Addr) (c : Nat) (xs : List Int) (w : World) (hb : w.heap[bd]? = some (.cells #[.slice a xs.length c] 25 (0, 0))) (hx : Bys w a xs) (hby : Byt xs) (hl : xs.length ≤ 1000000) (hc : xs.length ≤ c) (hcm : c ≤ maxLen) (hne : xs ≠ [] → ∀ b o, a = some ⟨b, o, none⟩ → b < w.heap.size) :
    Calls Tryz.prog 31 #[.pointer (some ⟨bd, 0, none⟩)] w fun e w1 => ((∃ cs : Array Value, e = .returned (.agg cs) ∧ cs.size = 6 ∧ cs.all (·.oneCell') = true ∧ ∃ x : EnN, Value.agg cs = x.val ∧ x.Ok ∧ xs = enL x ∧ w1.ownsRow w.heap.size 60 5 (.slice x.opsA x.ops.length x.opsC) x.ops.length (opCs x.ops)) ∨ e = .panicked PN ∧ ∀ y : EnN, y.Ok → xs ≠ enL y) ∧ Below w.heap.size w w1 := by
  have c0 := cells_1 hb
  obtain ⟨w1, hw1⟩ : ∃ w1, w.alloc (.cells #[.int .i64 0, .int .i64 0, .int .i64 0, .int .i64 0, .int .i64 0, .slice none 0 0] 24) = w1 := ⟨_, rfl⟩
  have HW1 : Hid (w.alloc (.cells #[.int .i64 0, .int .i64 0, .int .i64 0, .int .i64 0, .int .i64 0, .slice none 0 0] 24) = w1) := hw1
  have HB1 : Hid (Below w.heap.size w w1) := by rw [← hw1]; exact (Below.refl _ _).alloc (Nat.le_refl _) _
  have HS1 : Hid (w1.heap.size = w.heap.size + 1) := by show _ = _; rw [← hw1]; simp
  have HX1 : Hid (w1.heap[w.heap.size]? = some (.cells #[.int .i64 0, .int .i64 0, .int .i64 0, .int .i64 0, .int .i64 0, .slice none 0 0] 24 (0, 0))) := by show _ = _; rw [← hw1]; exact heap_alloc_new _ _
  obtain ⟨w2, hw2⟩ : ∃ w2, w1.alloc (.cells #[.slice a xs.length c, .int .i64 0] 78) = w2 := ⟨_, rfl⟩
  have HW2 : Hid (w1.alloc (.cells #[.slice a xs.length c, .int .i64 0] 78) = w2) := hw2
  have HB2 : Hid (Below w.heap.size w w2) := by rw [← hw2]; exact HB1.out.alloc HB1.out.size _
  have HS2 : Hid (w2.heap.size = w.heap.size + 2) := by show _ = _; rw [← hw2]; simp [HS1.out]
  have HX2 : Hid (w2.heap[w.heap.size]? = some (.cells #[.int .i64 0, .int .i64 0, .int .i64 0, .int .i64 0, .int .i64 0, .slice none 0 0] 24 (0, 0))) := by show _ = _; rw [← hw2]; exact new_old HX1.out _
  have HR2 : Hid (RdS 78 w2 w2 (w.heap.size + 1) a c xs 0) := ⟨by rw [← hw2]; exact heap_new' HS1.out, Chg.refl _ _, Nat.zero_le _⟩
  have HC : Hid (RdC w2 (w.heap.size + 1) a c xs) := ⟨hx.below HB2.out, hby, hl, hc, hcm, fun hz b o e => by have := hne hz b o e; omega, by rw [HS2.out]; omega⟩
  have HL : Hid (xs.length ≤ 1000000) := hl
  have c1 : w1.cell? ⟨bd, 0, none⟩ = some (.slice a xs.length c) := cells_1 (kept_block HB1.out hb)
  clear hw1 hw2 hx hby hl hc hcm hne hb
  go_enter Tryz.func31, Tryz.ntmps31
  go_upto_region 1 with fail
  rw [HW1.out]
  go_upto_region 2 with fail
  rw [HW2.out, HS1.out]
  clear c0 c1
  go_upto_region 3 with (first
    | (go_at_call 32; refine Calls.mono (rd_entry w2 (w.heap.size + 1) a c xs 0 _ HC.out HR2.out) ?_
       rintro e w3 (⟨x, q, rfl, hg, hs, hr, hch, hp⟩ | ⟨rfl, hno, hch⟩)
       rotate_left
       · exact ⟨rfl, .inr ⟨rfl, fun y hy hd => hno y [] (EnG.of hy) (by rw [List.drop_zero, List.append_nil]; exact hd)⟩, HB2.out.trans (hch.below (by rw [HS2.out]; omega) (fun k _ e => by omega))⟩
       have HG : Hid (EnG x) := hg
       have HS : Hid (Sd xs 0 (enL x) q) := hs
       have HR3 : Hid (RdS 78 w2 w3 (w.heap.size + 1) a c xs q) := hr
       have HB3 : Hid (Below w.heap.size w w3) := HB2.out.trans (hch.below (by rw [HS2.out]; omega) (fun k _ e => by omega))
       have HX3 : Hid (w3.heap[w.heap.size]? = some (.cells #[.int .i64 0, .int .i64 0, .int .i64 0, .int .i64 0, .int .i64 0, .slice none 0 0] 24 (0, 0))) := by show _ = _; rw [hch.block _ (by rw [HS2.out]; omega) (by omega)]; exact HX2.out
       have HP3 : Hid (w3.ownsRow w2.heap.size 60 5 (.slice x.opsA x.ops.length x.opsC) x.ops.length (opCs x.ops)) := hp
       have HZ3 : Hid (w2.heap.size ≤ w3.heap.size) := hch.size
       clear hg hs hr hch hp)
    | fail)
  obtain ⟨w4, hw4⟩ : ∃ w4, w3.alloc (.cells #[.int .i64 x.st, .int .i64 x.vw, .int .i64 x.K, .int .i64 x.se, .int .i64 x.rq, .slice x.opsA x.ops.length x.opsC] 24) = w4 := ⟨_, rfl⟩
  have hb4 : Below w3.heap.size w3 w4 := by rw [← hw4]; exact (Below.refl _ _).alloc (Nat.le_refl _) _
  have HE4 : Hid (w4.heap[w3.heap.size]? = some (.cells #[.int .i64 x.st, .int .i64 x.vw, .int .i64 x.K, .int .i64 x.se, .int .i64 x.rq, .slice x.opsA x.ops.length x.opsC] 24 (0, 0))) := by show _ = _; rw [← hw4]; exact heap_alloc_new _ _
  have HR4 : Hid (RdS 78 w2 w4 (w.heap.size + 1) a c xs q) := HR3.out.ext hb4
  have HB4 : Hid (Below w.heap.size w w4) := xtransN HB3.out hb4
  have HX4 : Hid (w4.heap[w.heap.size]? = some (.cells #[.int .i64 0, .int .i64 0, .int .i64 0, .int .i64 0, .int .i64 0, .slice none 0 0] 24 (0, 0))) := kept_block hb4 HX3.out
  have HP4 : Hid (w4.ownsRow w2.heap.size 60 5 (.slice x.opsA x.ops.length x.opsC) x.ops.length (opCs x.ops)) := owns_below HP3.out hb4
  obtain ⟨be, hbe⟩ : ∃ be, w3.heap.size = be := ⟨_, rfl⟩
  have HBE : Hid (w2.heap.size ≤ be) := by show _ ≤ _; rw [← hbe]; exact HZ3.out
  rw [hbe] at HE4
  rw [hw4, hbe]
  clear hw4 hb4 hbe
  go_upto_region 4 with (first
    | (go_at_call 33; refine Calls.mono (rd_end w2 (w.heap.size + 1) a c xs q _ HR4.out) ?_
       rintro e w5 ⟨⟨rfl, hq⟩ | ⟨rfl, hq⟩, hch⟩
       rotate_left
       · refine ⟨rfl, .inr ⟨rfl, fun y hy hd => ?_⟩, HB4.out.trans (hch.below (by have := HB4.out.size; omega) (fun k _ e => by omega))⟩
         have h1 := HS.out.1
         rw [List.drop_zero, hd] at h1
         have h2 := (en_pre (r := []) (EnG.of hy) HG.out (by rw [List.append_nil]; exact h1)).2
         have h3 := congrArg List.length h2
         rw [List.length_drop, ← hd] at h3
         simp at h3
         have := HS.out.2.2
         omega
       have HQ : Hid (xs = enL x) := by
         have h1 := HS.out.1
         rw [List.drop_zero, hq, List.drop_length, List.append_nil] at h1
         exact h1
       have HB5 : Hid (Below w.heap.size w w5) := HB4.out.trans (hch.below (by have := HB4.out.size; omega) (fun k _ e => by omega))
       have HX5 : Hid (w5.heap[w.heap.size]? = some (.cells #[.int .i64 0, .int .i64 0, .int .i64 0, .int .i64 0, .int .i64 0, .slice none 0 0] 24 (0, 0))) := by show _ = _; rw [hch.block _ (lt_of_blk HX4.out) (by omega)]; exact HX4.out
       have HE5 : Hid (w5.heap[be]? = some (.cells #[.int .i64 x.st, .int .i64 x.vw, .int .i64 x.K, .int .i64 x.se, .int .i64 x.rq, .slice x.opsA x.ops.length x.opsC] 24 (0, 0))) := by show _ = _; rw [hch.block _ (lt_of_blk HE4.out) (by have := HBE.out; have := HS2.out; omega)]; exact HE4.out
       have HP5 : Hid (w5.ownsRow w2.heap.size 60 5 (.slice x.opsA x.ops.length x.opsC) x.ops.length (opCs x.ops)) := row_keep HP4.out hch (fun k hk e => by have := HS2.out; omega)
       clear hch hq)
    | fail)
  have hlen : x.ops.length ≤ maxLen := by
    have h1 : x.ops.length ≤ (enL x).length := by
      rw [enL_is]
      unfold lsL
      have := flat_ge (f := opL) (L := x.ops) (fun z hz => opGe (HG.out.2.2 z hz))
      simp only [List.length_append]
      omega
    have := HL.out
    rw [HQ.out] at this
    unfold maxLen
    omega
  have HCK : Hid _ := En_ck x w5 (at_owns HP5.out hlen)
  clear hlen
  obtain ⟨c0, c1, c2, c3, c4, c5⟩ := cells_6N HE5.out
  go_upto_region 5 with (first
    | (go_at_call 25; refine Calls.mono HCK.out ?_
       rintro e w6 ⟨⟨rfl, hok⟩ | ⟨rfl, hok⟩, hb6⟩
       rotate_left
       · refine ⟨rfl, .inr ⟨rfl, fun y hy hd => hok ?_⟩, xtransN HB5.out hb6⟩
         have h1 := HQ.out
         rw [hd] at h1
         exact EnN.Eq.ok (en_pre (r := []) (s := []) HG.out (EnG.of hy) (by rw [List.append_nil, List.append_nil]; exact h1.symm)).1 hy
       have HK : Hid (x.Ok) := hok
       have HB6 : Hid (Below w.heap.size w w6) := xtransN HB5.out hb6
       have HX6 : Hid (w6.heap[w.heap.size]? = some (.cells #[.int .i64 0, .int .i64 0, .int .i64 0, .int .i64 0, .int .i64 0, .slice none 0 0] 24 (0, 0))) := kept_block hb6 HX5.out
       have HE6 : Hid (w6.heap[be]? = some (.cells #[.int .i64 x.st, .int .i64 x.vw, .int .i64 x.K, .int .i64 x.se, .int .i64 x.rq, .slice x.opsA x.ops.length x.opsC] 24 (0, 0))) := kept_block hb6 HE5.out
       have HP6 : Hid (w6.ownsRow w2.heap.size 60 5 (.slice x.opsA x.ops.length x.opsC) x.ops.length (opCs x.ops)) := owns_below HP5.out hb6
       clear hok hb6 c0 c1 c2 c3 c4 c5
       obtain ⟨c0, c1, c2, c3, c4, c5⟩ := cells_6N HE6.out)
    | fail)
  go_wp2_with (first
    | (refine wpList_store_row rfl 24 _ _ rfl w.heap.size #[.int .i64 x.st, .int .i64 x.vw, .int .i64 x.K, .int .i64 x.se, .int .i64 x.rq, .slice x.opsA x.ops.length x.opsC] rfl rfl 24 _ HX6.out (by kernel_rfl) rfl (by first | kernel_rfl | (simp; rfl)) ?_)
    | fail)
  refine bodyPost_ret (results_cell1 rfl _ _ w.heap.size 24 _ (0, 0) _ rfl (row_setA HX6.out) Tryz.underlying24 rfl (by kernel_rfl)) rfl ?_
  exact ⟨.inl ⟨_, rfl, rfl, by first | kernel_rfl | (simp; rfl), x, rfl, HK.out, HQ.out, owns_mono (row_keep2 HP6.out HX6.out (by have := HS2.out; omega)) (by have := HS2.out; omega)⟩, HB6.out.trans ((row_chgA HX6.out).below (Nat.le_of_lt (lt_of_blk HX6.out)) (fun k _ e => by omega))⟩
end Go.Proofs.YtdjfeomdiljaeaaGreatDoor
namespace Go.Proofs.YtdjfeomdiljaeaaGreatDoor
open Go.RowKit
set_option linter.unusedVariables false
set_option linter.unusedSimpArgs false

theorem results_cellT {P : Program} {fn : Func} {p q : Tmp} {ty : TypeId} (h : fn.results = #[.cell p ty, .tmp q]) (tmps : Array Value) (w : World) (g : Nat) (t : TypeId) (cs : Array Value) (fr : Nat × Nat) (d : TypeDesc) (v : Value)
    (hp : tmps.getD p undef = .pointer (some ⟨g, 0, none⟩)) (hq : tmps.getD q undef = v) (hg : w.heap[g]? = some (.cells cs t fr))
    (hu : P.underlying ty = some d) (hd : (match d with | .struct _ | .array _ _ => true | _ => false) = true) (hi : (P.info? ty).map (·.size) = some cs.size) :
    (results fn tmps).run P w = .ok (.tuple #[.agg cs, v]) w := by
  have hp' : tmps[p]?.getD undef = .pointer (some ⟨g, 0, none⟩) := by simpa using hp
  have hq' : tmps[q]?.getD undef = v := by simpa using hq
  simp [results, h, hp', hq', asAddr, run_loadVar_row w g t ty cs fr d hg hu hd hi]
/-- What a decoding of an entry answers. -/
def DecE (xs : List Int) (w : World) (e : Ending) (w' : World) : Prop := ∃ (x : EnN) (code : Int), e = .returned (.tuple #[x.val, .int .i64 code]) ∧ Below w.heap.size w w' ∧ w'.ownsRow w.heap.size 60 5 (.slice x.opsA x.ops.length x.opsC) x.ops.length (opCs x.ops) ∧ x.At w' ∧
  ((xs.length ≤ 262144 ∧ code = 0 ∧ x.Ok ∧ xs = enL x) ∨ (xs.length ≤ 262144 ∧ code = 30 ∧ EnN.Eq x zEn ∧ ∀ y : EnN, y.Ok → xs ≠ enL y) ∨ (262144 < xs.length ∧ code = 2 ∧ EnN.Eq x zEn))
theorem DecE.one {xs : List Int} {x y : EnN} {c d : Int} (h : (xs.length ≤ 262144 ∧ c = 0 ∧ x.Ok ∧ xs = enL x) ∨ (xs.length ≤ 262144 ∧ c = 30 ∧ EnN.Eq x zEn ∧ ∀ y : EnN, y.Ok → xs ≠ enL y) ∨ (262144 < xs.length ∧ c = 2 ∧ EnN.Eq x zEn))
    (k : (xs.length ≤ 262144 ∧ d = 0 ∧ y.Ok ∧ xs = enL y) ∨ (xs.length ≤ 262144 ∧ d = 30 ∧ EnN.Eq y zEn ∧ ∀ y : EnN, y.Ok → xs ≠ enL y) ∨ (262144 < xs.length ∧ d = 2 ∧ EnN.Eq y zEn)) : c = d ∧ EnN.Eq x y := by
  have tr : EnN.Eq x zEn → EnN.Eq y zEn → EnN.Eq x y := fun ⟨a1, a2, a3, a4, a5, a6⟩ ⟨b1, b2, b3, b4, b5, b6⟩ => ⟨a1.trans b1.symm, a2.trans b2.symm, a3.trans b3.symm, a4.trans b4.symm, a5.trans b5.symm, a6.trans b6.symm⟩
  rcases h with ⟨h0, h1, h2, h3⟩ | ⟨h0, h1, h2, h3⟩ | ⟨h0, h1, h2⟩ <;> rcases k with ⟨k0, k1, k2, k3⟩ | ⟨k0, k1, k2, k3⟩ | ⟨k0, k1, k2⟩
  · exact ⟨by omega, (en_pre (r := []) (s := []) (EnG.of h2) (EnG.of k2) (by rw [← h3, ← k3])).1⟩
  · exact absurd h3 (k3 x h2)
  · omega
  · exact absurd k3 (h3 y k2)
  · exact ⟨by omega, tr h2 k2⟩
  · omega
  · omega
  · omega
  · exact ⟨by omega, tr h2 k2⟩
theorem kept_chg2 {w1 w3 w4 : World} {k g : Nat} {o : Obj} (hb : Below w1.heap.size w1 w4) (hc : Chg w4 w3 (fun j => w1.heap.size ≤ j ∧ j < w1.heap.size + k)) (h : w1.heap[g]? = some o) (hg : g < w1.heap.size) : w3.heap[g]? = some o := by
  rw [hc.block g (Nat.lt_of_lt_of_le hg hb.size) (fun e => by omega)]
  exact kept_block hb h
theorem EnN.At.keep {W W' : World} {B : Nat} {x : EnN} {S : Nat → Prop} (hA : x.At W) (h : W.ownsRow B 60 5 (.slice x.opsA x.ops.length x.opsC) x.ops.length (opCs x.ops)) (hc : Chg W W' S) (hS : ∀ k, B ≤ k → ¬ S k) : x.At W' :=
  at_owns (row_keep h hc hS) (by have := hA.ops.1; rw [List.length_map] at this; exact this)
set_option maxHeartbeats 6400000 in
set_option maxRecDepth 100000 in
theorem dec_any (a : Option Addr) (c : Nat) (xs : List Int) (w : World) (hx : Bys w a xs) (hby : Byt xs) (hl : xs.length ≤ 1000000) (hc : xs.length ≤ c) (hcm : c ≤ maxLen) : Calls Tryz.prog 13 #[.slice a xs.length c] w (DecE xs w) := by
  obtain ⟨w1, hw1⟩ : ∃ w1, w.alloc (.cells #[.slice a xs.length c] 25) = w1 := ⟨_, rfl⟩
  have HW1 : Hid (w.alloc (.cells #[.slice a xs.length c] 25) = w1) := hw1
  have HB1 : Hid (Below w.heap.size w w1) := by rw [← hw1]; exact (Below.refl _ _).alloc (Nat.le_refl _) _
  have HS1 : Hid (w1.heap.size = w.heap.size + 1) := by show _ = _; rw [← hw1]; simp
  have HX1 : Hid (w1.heap[w.heap.size]? = some (.cells #[.slice a xs.length c] 25 (0, 0))) := by show _ = _; rw [← hw1]; exact heap_alloc_new _ _
  obtain ⟨w2, hw2⟩ : ∃ w2, w1.alloc (.cells #[.int .i64 0, .int .i64 0, .int .i64 0, .int .i64 0, .int .i64 0, .slice none 0 0] 24) = w2 := ⟨_, rfl⟩
  have HW2 : Hid (w1.alloc (.cells #[.int .i64 0, .int .i64 0, .int .i64 0, .int .i64 0, .int .i64 0, .slice none 0 0] 24) = w2) := hw2
  have HB2 : Hid (Below w.heap.size w w2) := by rw [← hw2]; exact HB1.out.alloc HB1.out.size _
  have HS2 : Hid (w2.heap.size = w.heap.size + 2) := by show _ = _; rw [← hw2]; simp [HS1.out]
  have HX2 : Hid (w2.heap[w.heap.size]? = some (.cells #[.slice a xs.length c] 25 (0, 0))) := by show _ = _; rw [← hw2]; exact new_old HX1.out _
  have HY2 : Hid (w2.heap[w.heap.size + 1]? = some (.cells #[.int .i64 0, .int .i64 0, .int .i64 0, .int .i64 0, .int .i64 0, .slice none 0 0] 24 (0, 0))) := by show _ = _; rw [← hw2]; exact heap_new' HS1.out
  have hne : xs ≠ [] → ∀ b o, a = some ⟨b, o, none⟩ → b < (w2_e w2).heap.size := fun hz b o e => by
    rcases hx with h | ⟨b', o', ha, hlt, _⟩
    · exact absurd h hz
    · rw [ha] at e
      cases e
      simp [HS2.out]
      omega
  have hba : Below w2.heap.size w2 (w2_e w2) := ((Below.refl _ _).alloc (Nat.le_refl _) _).alloc (by simp) _
  have HAn : Hid _ := ans_e 31 #[.pointer (some ⟨w.heap.size, 0, none⟩)] w2 (fun V w' => ∃ x : EnN, V = x.val ∧ x.Ok ∧ xs = enL x ∧ w'.ownsRow (w2_e w2).heap.size 60 5 (.slice x.opsA x.ops.length x.opsC) x.ops.length (opCs x.ops)) (fun _ => ∀ y : EnN, y.Ok → xs ≠ enL y) Tryz.call31
    (dec1_any w.heap.size a c xs (w2_e w2) (kept_block hba HX2.out) ((hx.below HB2.out).below hba) hby hl hc hcm hne)
  have HLX : Hid (xs.length ≤ 1000000) := hl
  clear hw1 hw2 hx hby hl hc hcm hne hba
  go_enter Tryz.func13, Tryz.ntmps13
  go_upto_region 1 with fail
  rw [HW1.out, HW2.out]
  have c0 := cells_1 HX2.out
  by_cases hlen : xs.length ≤ 262144
  · have hlen' : ¬ (262144 : Int) < (xs.length : Int) := by omega
    go_wp2_with (first
      | (go_at_call 30; refine Calls.mono HAn.out ?_
         rintro e w3 ⟨w4, hb4, hs4, hc4, ⟨V, ⟨x, rfl, hok, heq, hrow⟩, rfl⟩ | ⟨hno, rfl⟩⟩)
      | (refine wpList_store_row rfl 24 _ _ rfl (w.heap.size + 1) #[.int .i64 x.st, .int .i64 x.vw, .int .i64 x.K, .int .i64 x.se, .int .i64 x.rq, .slice x.opsA x.ops.length x.opsC] rfl rfl 24 _ (kept_chg2 hb4 hc4 HY2.out (by have := HS2.out; omega)) (by kernel_rfl) rfl (by first | kernel_rfl | (simp; rfl)) ?_)
      | (refine wpList_store_row rfl 24 _ _ rfl (w.heap.size + 1) #[.int .i64 0, .int .i64 0, .int .i64 0, .int .i64 0, .int .i64 0, .slice none 0 0] rfl rfl 24 _ (kept_chg2 hb4 hc4 HY2.out (by have := HS2.out; omega)) (by kernel_rfl) rfl (by first | kernel_rfl | (simp; rfl)) ?_)
      | fail)
    · have hy := kept_chg2 hb4 hc4 HY2.out (by have := HS2.out; omega)
      have hz2 := HS2.out
      have hrow3 := row_keep hrow hc4 (fun k hk e => by simp at hk; omega)
      have hrow4 := row_keep2 (cs := #[.int .i64 x.st, .int .i64 x.vw, .int .i64 x.K, .int .i64 x.se, .int .i64 x.rq, .slice x.opsA x.ops.length x.opsC]) hrow3 hy (by simp; omega)
      have hlx : x.ops.length ≤ maxLen := by
        have h1 := flat_ge (f := opL) (L := x.ops) (fun z hz => opGe (OpG.of ((EnN.facts hok).2.2 z hz)))
        have h2 := (EnN.facts hok).2.1
        unfold maxLen
        omega
      refine bodyPost_ret (results_cellT rfl _ _ (w.heap.size + 1) 24 _ (0, 0) _ _ rfl rfl (row_setA hy) Tryz.underlying24 rfl (by kernel_rfl)) rfl ?_
      exact ⟨x, 0, rfl, (HB2.out.trans ((hb4.mono (by omega)).trans (hc4.below (by have := hb4.size; omega) (fun j _ hj => by omega)))).trans ((row_chgA hy).below (by have := lt_of_blk hy; omega) (fun k _ e => by omega)), owns_mono hrow4 (by simp; omega), at_owns hrow4 hlx, .inl ⟨hlen, rfl, hok, heq⟩⟩
    · have hy := kept_chg2 hb4 hc4 HY2.out (by have := HS2.out; omega)
      have hz2 := HS2.out
      refine bodyPost_ret (results_cellT rfl _ _ (w.heap.size + 1) 24 _ (0, 0) _ _ rfl rfl (row_setA hy) Tryz.underlying24 rfl (by kernel_rfl)) rfl ?_
      exact ⟨zEn, 30, rfl, (HB2.out.trans ((hb4.mono (by omega)).trans (hc4.below (by have := hb4.size; omega) (fun j _ hj => by omega)))).trans ((row_chgA hy).below (by have := lt_of_blk hy; omega) (fun k _ e => by omega)), owns_none, zEn_at _, .inr (.inl ⟨hlen, rfl, ⟨rfl, rfl, rfl, rfl, rfl, rfl⟩, hno⟩)⟩
  · have hlen' : (262144 : Int) < (xs.length : Int) := by omega
    go_wp2_with (first
      | (refine wpList_store_row rfl 24 _ _ rfl (w.heap.size + 1) #[.int .i64 0, .int .i64 0, .int .i64 0, .int .i64 0, .int .i64 0, .slice none 0 0] rfl rfl 24 _ HY2.out (by kernel_rfl) rfl (by first | kernel_rfl | (simp; rfl)) ?_)
      | fail)
    refine bodyPost_ret (results_cellT rfl _ _ (w.heap.size + 1) 24 _ (0, 0) _ _ rfl rfl (row_setA HY2.out) Tryz.underlying24 rfl (by kernel_rfl)) rfl ?_
    exact ⟨zEn, 2, rfl, HB2.out.trans ((row_chgA HY2.out).below (by have := HS2.out; omega) (fun k _ e => by omega)), owns_none, zEn_at _, .inr (.inr ⟨by omega, rfl, ⟨rfl, rfl, rfl, rfl, rfl, rfl⟩⟩)⟩
end Go.Proofs.YtdjfeomdiljaeaaGreatDoor
