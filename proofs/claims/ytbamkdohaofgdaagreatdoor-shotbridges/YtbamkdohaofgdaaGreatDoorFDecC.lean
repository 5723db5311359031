import Derived.Test.YtbamkdohaofgdaaGreatDoorFPure
import Derived.Test.YtbamkdohaofgdaaGreatDoorFShot
import Derived.Test.YtbamkdohaofgdaaGreatDoorCGood
import Derived.Defers
import Derived.Recover
namespace Go.Proofs.YtbamkdohaofgdaaGreatDoor.W
open Go.RowKit
set_option linter.unusedVariables false
set_option linter.unusedSimpArgs false

theorem rt_size {xs : List Int} {at' nx : Int} {v : ByteArray} (h : rtAny at' xs = (v, nx, 0)) : v.size ≤ xs.length := by
  unfold rtAny at h
  split at h
  · simp only [Prod.mk.injEq] at h; exact absurd h.2.2 (by assumption)
  · split at h
    · simp at h
    · split at h
      · simp at h
      · simp only [Prod.mk.injEq] at h
        rw [← h.1]
        have : ∀ l : List Int, (strOfNums l).size = l.length := fun l => by simp [strOfNums, ByteArray.size]
        rw [this, List.length_take, List.length_drop]
        omega
theorem rdOne_size {xs : List Int} {at' nx : Int} {s : SeenT} (h : rdOne xs at' = some (s, nx)) : s.p.size ≤ xs.length := by
  unfold rdOne at h
  split at h
  · rename_i h0
    split at h
    · split at h
      · simp only [Option.some.injEq, Prod.mk.injEq] at h
        rw [← h.1]
        exact rt_size (at' := at') (nx := (rtAny at' xs).2.1) (by rw [← h0])
      · cases h
    · cases h
  · cases h
theorem rdMany_size {xs : List Int} {at' : Int} : ∀ {n : Nat} {l : List SeenT} {a1 : Int}, rdMany xs at' n = some (l, a1) → ∀ s ∈ l, s.p.size ≤ xs.length
  | 0, l, a1, h => by simp only [rdMany, Option.some.injEq, Prod.mk.injEq] at h; rw [← h.1]; intro s hs; cases hs
  | n + 1, l, a1, h => by
    simp only [rdMany] at h
    split at h
    · cases h
    · rename_i r hr
      split at h
      · cases h
      · rename_i s0 hs0
        simp only [Option.some.injEq, Prod.mk.injEq] at h
        have ih := rdMany_size (l := r.1) (a1 := r.2) hr
        rw [← h.1]
        intro s hs
        rcases List.mem_append.1 hs with hs | hs
        · exact ih s hs
        · rw [List.mem_singleton] at hs
          rw [hs]
          exact rdOne_size (nx := s0.2) hs0
theorem rdShot_size {xs : List Int} {R : SaysT} (h : rdShot xs = some R) : R.l.length ≤ 64 ∧ ∀ s ∈ R.l, s.p.size ≤ xs.length := by
  unfold rdShot at h
  split at h
  · cases h
  · rename_i hd _
    split at h
    · cases h
    · split at h
      · cases h
      · rename_i hn r hr
        simp only [Option.some.injEq] at h
        rw [← h]
        refine ⟨?_, fun s hs => rdMany_size (l := r.1) (a1 := r.2) hr s hs⟩
        have := rdMany_len (l := r.1) (a1 := r.2) hr
        show r.1.length ≤ 64
        rw [this]
        omega
end Go.Proofs.YtbamkdohaofgdaaGreatDoor.W
namespace Go.Proofs.YtbamkdohaofgdaaGreatDoor.W
open Go.RowKit Classical
set_option linter.unusedVariables false
set_option linter.unusedSimpArgs false

theorem results_cells {P : Program} {fn : Func} {p q : Tmp} {ty ty' : TypeId} (h : fn.results = #[.cell p ty, .cell q ty']) (tmps : Array Value) (w : World) (g g' : Nat) (t : TypeId) (cs : Array Value) (fr : Nat × Nat) (d : TypeDesc) (v : Value)
    (hp : tmps.getD p undef = .pointer (some ⟨g, 0, none⟩)) (hq : tmps.getD q undef = .pointer (some ⟨g', 0, none⟩)) (hg : w.heap[g]? = some (.cells cs t fr))
    (hu : P.underlying ty = some d) (hd : (match d with | .struct _ | .array _ _ => true | _ => false) = true) (hi : (P.info? ty).map (·.size) = some cs.size)
    (hv : (loadVar ty' ⟨g', 0, none⟩).run P w = .ok v w) :
    (results fn tmps).run P w = .ok (.tuple #[.agg cs, v]) w := by
  have hp' : tmps[p]?.getD undef = .pointer (some ⟨g, 0, none⟩) := by simpa using hp
  have hq' : tmps[q]?.getD undef = .pointer (some ⟨g', 0, none⟩) := by simpa using hq
  simp [results, h, hp', hq', asAddr, run_loadVar_row w g t ty cs fr d hg hu hd hi, hv]
set_option maxHeartbeats 1600000 in
theorem catch_panicking (bs bc : Nat) (cs : Array Value) (y0 y1 y2 y3 z0 : Value) (u : TypeId) (pv : Value) (older : List PanicEntry) (w : World) (hs : w.heap[bs]? = some (.cells #[y0, y1, y2, y3] 24 (0, 0))) (hc : w.heap[bc]? = some (.cells #[z0] 28 (0, 0))) (hne : bs ≠ bc) :
    CallsD Tryz.prog 27 #[.pointer (some ⟨bs, 0, none⟩), .pointer (some ⟨bc, 0, none⟩)] (.panicking ({ v := .iface u pv, recovered := false } :: older)) w fun e u' w' =>
      e = .returned (.tuple #[]) ∧ u' = .panicking ({ v := .iface u pv, recovered := true } :: older) ∧ w' = (put_4 w bs (.int .i64 0) (.string ⟨#[]⟩) (.int .i64 0) (.slice none 0 0)).setCell ⟨bc, 0, none⟩ (.int .i64 51) := by
  have s4 := cells_4 hs
  have f4 := free_4 hs
  have c1 := cells_1 hc
  have g1 := free_1 hc
  have hne' : bc ≠ bs := fun e => hne e.symm
  refine callsD_of_wpS Tryz.func27 rfl fun c₀ cs hu => ?_
  apply wpS_seq
  apply wpS_region
  simp [wpOpsS, go_sem, recoverD, hu, Tryz.ntmps27, Exit.thenS]
  refine wpS_cond (t := true) (by simp [Act.eval, Array.replicate]) ?_
  simp only [if_true]
  apply wpS_region
  simp [wpOpsS, go_sem, s4, f4, c1, g1, hne, hne', bodyPostS, results, Tryz.results27]
theorem catch_idle (x y : Value) (w : World) :
    CallsD Tryz.prog 27 #[x, y] .returning w fun e u' w' => e = .returned (.tuple #[]) ∧ u' = .returning ∧ w' = w := by
  refine callsD_of_wpS Tryz.func27 rfl fun c₀ cs hu => ?_
  apply wpS_seq
  apply wpS_region
  simp [wpOpsS, go_sem, recoverD, hu, Tryz.ntmps27, Exit.thenS]
  refine wpS_cond (t := false) (by simp [Act.eval, Array.replicate]) ?_
  simp only [Bool.false_eq_true, if_false]
  refine wpS_of_wp (wp_skip ?_)
  cases c₀
  simp_all [bodyPostS, results, Tryz.results27]
/-- What a Decode answers. -/
structure DecRes (xs : List Int) (code : Int) (st : Int) (p : ByteArray) (k : Int) (l : List SeenT) : Prop where
  long : 262144 < xs.length → code = 2 ∧ st = 0 ∧ p = ⟨#[]⟩ ∧ k = 0 ∧ l = []
  good : ∀ R, xs.length ≤ 262144 → rdShot xs = some R → R.at' = xs.length → Good R.st R.p R.k R.l → code = 0 ∧ st = R.st ∧ p = R.p ∧ k = R.k ∧ l = R.l
  bad : xs.length ≤ 262144 → (∀ R, rdShot xs = some R → R.at' = xs.length → ¬ Good R.st R.p R.k R.l) → code = 51 ∧ st = 0 ∧ p = ⟨#[]⟩ ∧ k = 0 ∧ l = []
theorem DecRes.one {xs : List Int} {c c' st st' k k' : Int} {p p' : ByteArray} {l l' : List SeenT} (h : DecRes xs c st p k l) (h' : DecRes xs c' st' p' k' l') : c = c' ∧ st = st' ∧ p = p' ∧ k = k' ∧ l = l' := by
  by_cases hl : 262144 < xs.length
  · have h1 := h.long hl
    have h2 := h'.long hl
    simp [h1, h2]
  · by_cases hb : ∀ R, rdShot xs = some R → R.at' = xs.length → ¬ Good R.st R.p R.k R.l
    · have h1 := h.bad (by omega) hb
      have h2 := h'.bad (by omega) hb
      simp [h1, h2]
    · obtain ⟨R, hR, ha, hg⟩ : ∃ R, rdShot xs = some R ∧ R.at' = xs.length ∧ Good R.st R.p R.k R.l := Classical.byContradiction fun hn => hb (fun R hR ha hg => hn ⟨R, hR, ha, hg⟩)
      have h1 := h.good R (by omega) hR ha hg
      have h2 := h'.good R (by omega) hR ha hg
      simp [h1, h2]
def DecEnd (xs : List Int) (w w' : World) (e : Ending) : Prop := ∃ st p k la lc l code, e = .returned (.tuple #[.agg (shA st p k la l.length lc), .int .i64 code]) ∧ Ss w' la l ∧ DecRes xs code st p k l ∧ Below w.heap.size w w' ∧ l.length ≤ lc
theorem load_errno {W : World} {b : Nat} {n : Int} (h : W.heap[b]? = some (.cells #[.int .i64 n] 28 (0, 0))) : (loadVar 28 ⟨b, 0, none⟩).run Tryz.prog W = .ok (.int .i64 n) W := by
  have c1 := cells_1 h
  simp [go_sem, c1]
theorem DecRes.of_bad {xs : List Int} (hl : xs.length ≤ 262144) (h : ∀ R, rdShot xs = some R → R.at' = xs.length → ¬ Good R.st R.p R.k R.l) : DecRes xs 51 0 ⟨#[]⟩ 0 [] := ⟨fun h' => absurd hl (by omega), fun R _ hR ha hg => absurd hg (h R hR ha), fun _ _ => ⟨rfl, rfl, rfl, rfl, rfl⟩⟩
theorem dec_check (st : Int) (p : ByteArray) (k : Int) (la : Option Addr) (lc L : Nat) (l : List SeenT) (w : World) (hL : l.length = L) (hg : Ground w) (hs : Ss w la l) (hok : ∀ s ∈ l, s.p.size ≤ maxLen) (hc : L ≤ lc) (h64 : L ≤ 64) :
    Calls Tryz.prog 14 #[.agg (shA st p k la L lc)] w fun e w' => e = .returned (.int .i64 (chk st p k l)) ∧ Below w.heap.size w w' := by
  subst hL
  exact check_any st p k la lc l w hg hs hok (by unfold maxLen; omega) hc
/-- The two results and the reader, in a frame. -/
structure DF (w W : World) (S : Array Value) (n : Int) : Prop where
  ps : W.heap[w.heap.size]? = some (.cells S 24 (0, 0))
  pc : W.heap[w.heap.size + 1]? = some (.cells #[.int .i64 n] 28 (0, 0))
  low : Below w.heap.size w W
theorem DF.step {w W W' : World} {S : Array Value} {n : Int} (h : DF w W S n) (hc : Chg W W' (fun j => j = w.heap.size + 1 + 1)) : DF w W' S n := by
  refine ⟨other_chg hc h.ps (by omega), other_chg hc h.pc (by omega), h.low.trans (hc.below h.low.size (fun j _ e => by omega))⟩
theorem DF.below {w W W' : World} {S : Array Value} {n : Int} (h : DF w W S n) (hb : Below W.heap.size W W') : DF w W' S n := ⟨kept_block hb h.ps, kept_block hb h.pc, trans2 h.low hb⟩
set_option maxHeartbeats 3200000 in
/-- Behind a panic: what the deferred call leaves. -/
theorem dec_caught (xs : List Int) (w w1 : World) (tmps : Array Value) (y0 y1 y2 y3 : Value) (h : DF w w1 #[y0, y1, y2, y3] 0) (hr : DecRes xs 51 0 ⟨#[]⟩ 0 []) (h2 : tmps.getD 2 undef = .pointer (some ⟨w.heap.size, 0, none⟩)) (h3 : tmps.getD 3 undef = .pointer (some ⟨w.heap.size + 1, 0, none⟩)) :
    Leaves Tryz.prog Tryz.f13 tmps (fun e w' => DecEnd xs w w' e) [{ target := .fn (.func 27) #[.pointer (some ⟨w.heap.size, 0, none⟩), .pointer (some ⟨w.heap.size + 1, 0, none⟩)], args := #[] }] (.panicking PN) w1 := by
  refine leaves_cons (f := 27) (args := #[.pointer (some ⟨w.heap.size, 0, none⟩), .pointer (some ⟨w.heap.size + 1, 0, none⟩)]) (by simp) (by simp [go_sem]) ?_
  refine (catch_panicking w.heap.size (w.heap.size + 1) #[] y0 y1 y2 y3 (.int .i64 0) 124 (.agg #[]) [] w1 h.ps h.pc (by omega)).mono ?_
  rintro e u' w'' ⟨rfl, rfl, rfl⟩
  have hp : ((put_4 w1 w.heap.size (.int .i64 0) (.string ⟨#[]⟩) (.int .i64 0) (.slice none 0 0)).setCell ⟨w.heap.size + 1, 0, none⟩ (.int .i64 51)).heap[w.heap.size]? = some (.cells shZ 24 (0, 0)) := other_blk (fill_4 h.ps) (by omega)
  have hq : ((put_4 w1 w.heap.size (.int .i64 0) (.string ⟨#[]⟩) (.int .i64 0) (.slice none 0 0)).setCell ⟨w.heap.size + 1, 0, none⟩ (.int .i64 51)).heap[w.heap.size + 1]? = some (.cells #[.int .i64 51] 28 (0, 0)) := same_blk (fillO_4 h.pc (by omega)) rfl
  exact ⟨_, results_cells rfl _ _ w.heap.size (w.heap.size + 1) 24 _ (0, 0) _ (.int .i64 51) h2 h3 hp Tryz.underlying24 rfl (by kernel_rfl) (load_errno hq), 0, ⟨#[]⟩, 0, none, 0, [], 51, rfl, .inl rfl, hr, (fillB_4 h.low (Nat.le_refl _)).setCell (show w.heap.size ≤ w.heap.size + 1 by omega) _, Nat.le_refl _⟩
set_option maxHeartbeats 3200000 in
/-- Behind a return: what is answered. -/
theorem dec_done (xs : List Int) (w w1 : World) (tmps : Array Value) (st : Int) (p : ByteArray) (k : Int) (la : Option Addr) (lc L : Nat) (l : List SeenT) (h : DF w w1 (shA st p k la L lc) 0) (hL : l.length = L) (hcap : L ≤ lc) (hs : Ss w1 la l) (hf : ∀ b o, la = some ⟨b, o, none⟩ → w.heap.size + 1 < b) (hr : DecRes xs 0 st p k l) (h2 : tmps.getD 2 undef = .pointer (some ⟨w.heap.size, 0, none⟩)) (h3 : tmps.getD 3 undef = .pointer (some ⟨w.heap.size + 1, 0, none⟩)) :
    Leaves Tryz.prog Tryz.f13 tmps (fun e w' => DecEnd xs w w' e) [{ target := .fn (.func 27) #[.pointer (some ⟨w.heap.size, 0, none⟩), .pointer (some ⟨w.heap.size + 1, 0, none⟩)], args := #[] }] .returning ((put_4 w1 w.heap.size (.int .i64 st) (.string p) (.int .i64 k) (.slice la L lc)).setCell ⟨w.heap.size + 1, 0, none⟩ (.int .i64 0)) := by
  refine leaves_cons (f := 27) (args := #[.pointer (some ⟨w.heap.size, 0, none⟩), .pointer (some ⟨w.heap.size + 1, 0, none⟩)]) (by simp) (by simp [go_sem]) ?_
  refine (catch_idle _ _ _).mono ?_
  rintro e u' w'' ⟨rfl, rfl, rfl⟩
  have hp : ((put_4 w1 w.heap.size (.int .i64 st) (.string p) (.int .i64 k) (.slice la L lc)).setCell ⟨w.heap.size + 1, 0, none⟩ (.int .i64 0)).heap[w.heap.size]? = some (.cells (shA st p k la L lc) 24 (0, 0)) := other_blk (fill_4 h.ps) (by omega)
  have hq : ((put_4 w1 w.heap.size (.int .i64 st) (.string p) (.int .i64 k) (.slice la L lc)).setCell ⟨w.heap.size + 1, 0, none⟩ (.int .i64 0)).heap[w.heap.size + 1]? = some (.cells #[.int .i64 0] 28 (0, 0)) := same_blk (fillO_4 h.pc (by omega)) rfl
  have hs2 : Ss ((put_4 w1 w.heap.size (.int .i64 st) (.string p) (.int .i64 k) (.slice la L lc)).setCell ⟨w.heap.size + 1, 0, none⟩ (.int .i64 0)) la l := ss_chg (ss_chg hs (put4_chg w1 w.heap.size _ _ _ _) (fun b o hb e => by have := hf b o hb; omega)) (Chg.set _ ⟨w.heap.size + 1, 0, none⟩ _) (fun b o hb e => by have := hf b o hb; simp only at e; omega)
  exact ⟨_, results_cells rfl _ _ w.heap.size (w.heap.size + 1) 24 _ (0, 0) _ (.int .i64 0) h2 h3 hp Tryz.underlying24 rfl (by kernel_rfl) (load_errno hq), st, p, k, la, lc, l, 0, by rw [hL], hs2, hr, (fillB_4 h.low (Nat.le_refl _)).setCell (show w.heap.size ≤ w.heap.size + 1 by omega) _, by rw [hL]; exact hcap⟩
set_option maxHeartbeats 6400000 in
set_option maxRecDepth 100000 in
theorem decode_any (a : Option Addr) (c : Nat) (xs : List Int) (w : World) (hg : Ground w) (hx : Bys w a xs) (hb : Byt xs) (hm : xs.length ≤ 1000000) (hc : xs.length ≤ c) (hcm : c ≤ maxLen) :
    Calls Tryz.prog 13 #[.slice a xs.length c] w fun e w' => DecEnd xs w w' e := by
  have hmf : ∀ (fn : Fn) (first cap : Array Value) (w : World), (Instr.makeFunc fn first cap).run Tryz.prog w = .ok (.func fn first cap) w := fun _ _ _ _ => rfl
  by_cases hl : xs.length ≤ 262144
  · have hl' : ¬ (262144 : Int) < (xs.length : Int) := by omega
    have HL : Hid (xs.length ≤ 262144) := hl
    have HG : Hid (Ground w) := hg
    have HD0 : Hid (DF w (((w.alloc (.cells shZ 24)).alloc (.cells #[.int .i64 0] 28)).alloc (.cells #[.slice a xs.length c, .int .i64 0] 87)) shZ 0) := ⟨new_old (new_old (heap_alloc_new _ _) _) _, new_old (heap_new' (by simp)) _, (((Below.refl _ _).alloc (Nat.le_refl _) _).alloc (by simp) _).alloc (by simp; omega) _⟩
    have HRS : Hid _ := rShot_any (w.heap.size + 1 + 1) a c xs (((w.alloc (.cells shZ 24)).alloc (.cells #[.int .i64 0] 28)).alloc (.cells #[.slice a xs.length c, .int .i64 0] 87)) (heap_new' (by simp)) (hx.below ((((Below.refl _ _).alloc (Nat.le_refl _) _).alloc (by simp) _).alloc (by simp; omega) _)) hb hm hc hcm (fun hne b o ha => by
      rcases hx with h | ⟨b', o', ha', hlt, _⟩
      · exact absurd h hne
      · rw [ha'] at ha
        cases ha
        omega)
    obtain ⟨N, hN⟩ : ∃ N, xs.length = N := ⟨_, rfl⟩
    have HN : Hid (xs.length = N) := hN
    rw [hN] at HD0 HRS hl' ⊢
    clear hg hx hb hm hc hcm hl hN
    unfold ShotEnd at HRS
    cases hR : rdShot xs with
    | none =>
      rw [hR] at HRS
      have HDR : Hid (DecRes xs 51 0 ⟨#[]⟩ 0 []) := DecRes.of_bad HL.out (fun R h => by rw [hR] at h; cases h)
      clear hR
      go_enter_defers Tryz.func13, Tryz.ntmps13
      go_wp2_with fail
      refine Calls.mono HRS.out ?_
      rintro e w1 ⟨rfl, hc1⟩
      have HD1 : Hid (DF w w1 shZ 0) := HD0.out.step hc1
      clear hc1
      go_wp2_with fail
      exact dec_caught xs w w1 _ _ _ _ _ HD1.out HDR.out rfl rfl
    | some R =>
      rw [hR] at HRS
      have HR : Hid (rdShot xs = some R) := hR
      obtain ⟨st, p, k, l, at5⟩ := R
      clear hR
      simp only at HRS
      obtain ⟨L, hL⟩ : ∃ L, l.length = L := ⟨_, rfl⟩
      have HLL : Hid (l.length = L) := hL
      have hsz := rdShot_size HR.out
      simp only at hsz
      have HSZ : Hid (∀ s ∈ l, s.p.size ≤ maxLen) := fun s hs => by have := hsz.2 s hs; have := HL.out; unfold maxLen; omega
      have H64 : Hid (L ≤ 64) := by show _ ≤ _; rw [← hL]; exact hsz.1
      rw [hL] at HRS
      clear hL hsz
      by_cases hat : at5 = N
      · have HAT : Hid (at5 = N) := hat
        rw [hat] at HRS HR
        clear hat
        by_cases hgd : Good st p k l
        · have HGD : Hid (Good st p k l) := hgd
          have HDR : Hid (DecRes xs 0 st p k l) := ⟨fun h => absurd HL.out (by omega), fun R _ hR' _ _ => by rw [HR.out] at hR'; cases hR'; exact ⟨rfl, rfl, rfl, rfl, rfl⟩, fun _ h => absurd hgd (h _ HR.out (by show (N : Int) = xs.length; rw [HN.out]))⟩
          clear hgd
          go_enter_defers Tryz.func13, Tryz.ntmps13
          go_wp2_with fail
          refine Calls.mono HRS.out ?_
          rintro e w1 ⟨la, lc, rfl, hs1, hcap1, hnil1, hr1, hf1, hc1⟩
          have HD1 : Hid (DF w w1 shZ 0) := HD0.out.step hc1
          have HD2 : Hid (DF w ((((w1.setCell ⟨w.heap.size, 0, none⟩ (.int .i64 st)).setCell ⟨w.heap.size, 1, none⟩ (.string p)).setCell ⟨w.heap.size, 2, none⟩ (.int .i64 k)).setCell ⟨w.heap.size, 3, none⟩ (.slice la L lc)) (shA st p k la L lc) 0) := ⟨fill_4 HD1.out.ps, fillO_4 HD1.out.pc (by omega), fillB_4 HD1.out.low (Nat.le_refl _)⟩
          have HRB : Hid (RdAt ((((w1.setCell ⟨w.heap.size, 0, none⟩ (.int .i64 st)).setCell ⟨w.heap.size, 1, none⟩ (.string p)).setCell ⟨w.heap.size, 2, none⟩ (.int .i64 k)).setCell ⟨w.heap.size, 3, none⟩ (.slice la L lc)) (w.heap.size + 1 + 1) a N c N) := fillO_4 hr1 (by omega)
          have HSS : Hid (Ss ((((w1.setCell ⟨w.heap.size, 0, none⟩ (.int .i64 st)).setCell ⟨w.heap.size, 1, none⟩ (.string p)).setCell ⟨w.heap.size, 2, none⟩ (.int .i64 k)).setCell ⟨w.heap.size, 3, none⟩ (.slice la L lc)) la l) := ss_chg hs1 (put4_chg w1 w.heap.size (.int .i64 st) (.string p) (.int .i64 k) (.slice la L lc)) (fun b o hb e => by have := hf1 b o hb; simp at this; omega)
          have HCAP : Hid (L ≤ lc) := hcap1
          have HF : Hid (∀ b o, la = some ⟨b, o, none⟩ → w.heap.size + 1 < b) := fun b o hb => by have := hf1 b o hb; simp at this; omega
          obtain ⟨s0, s1, s2, s3⟩ := cells_4 HD1.out.ps
          have f4 := free_4 HD1.out.ps
          obtain ⟨b0, b1⟩ := cells_2 hr1
          have hne2 : w.heap.size + 1 + 1 ≠ w.heap.size := by omega
          clear hs1 hcap1 hnil1 hr1 hf1 hc1
          go_wp2_with fail
          clear s0 s1 s2 s3 f4 b0 b1
          generalize (((w1.setCell ⟨w.heap.size, 0, none⟩ (.int .i64 st)).setCell ⟨w.heap.size, 1, none⟩ (.string p)).setCell ⟨w.heap.size, 2, none⟩ (.int .i64 k)).setCell ⟨w.heap.size, 3, none⟩ (.slice la L lc) = w2 at HD2 HRB HSS ⊢
          refine (must_true _).mono ?_
          rintro e w3 ⟨rfl, rfl⟩
          obtain ⟨s0, s1, s2, s3⟩ := cells_4 HD2.out.ps
          go_wp2_with fail
          refine (dec_check st p k la lc L l _ HLL.out (HG.out.below HD2.out.low) HSS.out HSZ.out HCAP.out H64.out).mono ?_
          rintro e w4 ⟨he, hb4⟩
          rw [chk_good HGD.out] at he
          subst he
          have HD4 : Hid (DF w w4 (shA st p k la L lc) 0) := HD2.out.below hb4
          have HSS4 : Hid (Ss w4 la l) := HSS.out.below hb4
          clear hb4 s0 s1 s2 s3
          obtain ⟨s0, s1, s2, s3⟩ := cells_4 HD4.out.ps
          have f4 := free_4 HD4.out.ps
          have k1 := cells_1 HD4.out.pc
          have g1 := free_1 HD4.out.pc
          have hne3 : w.heap.size + 1 ≠ w.heap.size := by omega
          go_wp2_with fail
          refine (must_true _).mono ?_
          rintro e w5 ⟨rfl, rfl⟩
          go_wp2_with fail
          exact dec_done xs w w5 _ st p k la lc L l HD4.out HLL.out HCAP.out HSS4.out HF.out HDR.out rfl rfl
        · have HGD : Hid (¬ Good st p k l) := hgd
          have HDR : Hid (DecRes xs 51 0 ⟨#[]⟩ 0 []) := DecRes.of_bad HL.out (fun R h _ => by rw [HR.out] at h; cases h; exact hgd)
          clear hgd
          go_enter_defers Tryz.func13, Tryz.ntmps13
          go_wp2_with fail
          refine Calls.mono HRS.out ?_
          rintro e w1 ⟨la, lc, rfl, hs1, hcap1, hnil1, hr1, hf1, hc1⟩
          have HD1 : Hid (DF w w1 shZ 0) := HD0.out.step hc1
          have HD2 : Hid (DF w ((((w1.setCell ⟨w.heap.size, 0, none⟩ (.int .i64 st)).setCell ⟨w.heap.size, 1, none⟩ (.string p)).setCell ⟨w.heap.size, 2, none⟩ (.int .i64 k)).setCell ⟨w.heap.size, 3, none⟩ (.slice la L lc)) (shA st p k la L lc) 0) := ⟨fill_4 HD1.out.ps, fillO_4 HD1.out.pc (by omega), fillB_4 HD1.out.low (Nat.le_refl _)⟩
          have HRB : Hid (RdAt ((((w1.setCell ⟨w.heap.size, 0, none⟩ (.int .i64 st)).setCell ⟨w.heap.size, 1, none⟩ (.string p)).setCell ⟨w.heap.size, 2, none⟩ (.int .i64 k)).setCell ⟨w.heap.size, 3, none⟩ (.slice la L lc)) (w.heap.size + 1 + 1) a N c N) := fillO_4 hr1 (by omega)
          have HSS : Hid (Ss ((((w1.setCell ⟨w.heap.size, 0, none⟩ (.int .i64 st)).setCell ⟨w.heap.size, 1, none⟩ (.string p)).setCell ⟨w.heap.size, 2, none⟩ (.int .i64 k)).setCell ⟨w.heap.size, 3, none⟩ (.slice la L lc)) la l) := ss_chg hs1 (put4_chg w1 w.heap.size (.int .i64 st) (.string p) (.int .i64 k) (.slice la L lc)) (fun b o hb e => by have := hf1 b o hb; simp at this; omega)
          have HCAP : Hid (L ≤ lc) := hcap1
          have HF : Hid (∀ b o, la = some ⟨b, o, none⟩ → w.heap.size + 1 < b) := fun b o hb => by have := hf1 b o hb; simp at this; omega
          obtain ⟨s0, s1, s2, s3⟩ := cells_4 HD1.out.ps
          have f4 := free_4 HD1.out.ps
          obtain ⟨b0, b1⟩ := cells_2 hr1
          have hne2 : w.heap.size + 1 + 1 ≠ w.heap.size := by omega
          clear hs1 hcap1 hnil1 hr1 hf1 hc1
          go_wp2_with fail
          clear s0 s1 s2 s3 f4 b0 b1
          generalize (((w1.setCell ⟨w.heap.size, 0, none⟩ (.int .i64 st)).setCell ⟨w.heap.size, 1, none⟩ (.string p)).setCell ⟨w.heap.size, 2, none⟩ (.int .i64 k)).setCell ⟨w.heap.size, 3, none⟩ (.slice la L lc) = w2 at HD2 HRB HSS ⊢
          refine (must_true _).mono ?_
          rintro e w3 ⟨rfl, rfl⟩
          obtain ⟨s0, s1, s2, s3⟩ := cells_4 HD2.out.ps
          go_wp2_with fail
          refine (dec_check st p k la lc L l _ HLL.out (HG.out.below HD2.out.low) HSS.out HSZ.out HCAP.out H64.out).mono ?_
          rintro e w4 ⟨he, hb4⟩
          rw [chk_bad HGD.out] at he
          subst he
          have HD4 : Hid (DF w w4 (shA st p k la L lc) 0) := HD2.out.below hb4
          clear hb4 s0 s1 s2 s3
          go_wp2_with fail
          refine (must_false _).mono ?_
          rintro e w5 ⟨rfl, rfl⟩
          go_wp2_with fail
          exact dec_caught xs w _ _ _ _ _ _ HD4.out HDR.out rfl rfl
      · have hatb : (at5 == (N : Int)) = false := by simpa using hat
        have HDR : Hid (DecRes xs 51 0 ⟨#[]⟩ 0 []) := DecRes.of_bad HL.out (fun R h ha => by rw [HR.out] at h; cases h; exact absurd (ha.trans (by rw [HN.out])) hat)
        clear hat
        go_enter_defers Tryz.func13, Tryz.ntmps13
        go_wp2_with fail
        refine Calls.mono HRS.out ?_
        rintro e w1 ⟨la, lc, rfl, hs1, hcap1, hnil1, hr1, hf1, hc1⟩
        have HD1 : Hid (DF w w1 shZ 0) := HD0.out.step hc1
        have HD2 : Hid (DF w ((((w1.setCell ⟨w.heap.size, 0, none⟩ (.int .i64 st)).setCell ⟨w.heap.size, 1, none⟩ (.string p)).setCell ⟨w.heap.size, 2, none⟩ (.int .i64 k)).setCell ⟨w.heap.size, 3, none⟩ (.slice la L lc)) (shA st p k la L lc) 0) := ⟨fill_4 HD1.out.ps, fillO_4 HD1.out.pc (by omega), fillB_4 HD1.out.low (Nat.le_refl _)⟩
        have HRB : Hid (RdAt ((((w1.setCell ⟨w.heap.size, 0, none⟩ (.int .i64 st)).setCell ⟨w.heap.size, 1, none⟩ (.string p)).setCell ⟨w.heap.size, 2, none⟩ (.int .i64 k)).setCell ⟨w.heap.size, 3, none⟩ (.slice la L lc)) (w.heap.size + 1 + 1) a N c at5) := fillO_4 hr1 (by omega)
        have HSS : Hid (Ss ((((w1.setCell ⟨w.heap.size, 0, none⟩ (.int .i64 st)).setCell ⟨w.heap.size, 1, none⟩ (.string p)).setCell ⟨w.heap.size, 2, none⟩ (.int .i64 k)).setCell ⟨w.heap.size, 3, none⟩ (.slice la L lc)) la l) := ss_chg hs1 (put4_chg w1 w.heap.size (.int .i64 st) (.string p) (.int .i64 k) (.slice la L lc)) (fun b o hb e => by have := hf1 b o hb; simp at this; omega)
        have HCAP : Hid (L ≤ lc) := hcap1
        have HF : Hid (∀ b o, la = some ⟨b, o, none⟩ → w.heap.size + 1 < b) := fun b o hb => by have := hf1 b o hb; simp at this; omega
        obtain ⟨s0, s1, s2, s3⟩ := cells_4 HD1.out.ps
        have f4 := free_4 HD1.out.ps
        obtain ⟨b0, b1⟩ := cells_2 hr1
        have hne2 : w.heap.size + 1 + 1 ≠ w.heap.size := by omega
        clear hs1 hcap1 hnil1 hr1 hf1 hc1
        go_wp2_with fail
        clear s0 s1 s2 s3 f4 b0 b1
        generalize (((w1.setCell ⟨w.heap.size, 0, none⟩ (.int .i64 st)).setCell ⟨w.heap.size, 1, none⟩ (.string p)).setCell ⟨w.heap.size, 2, none⟩ (.int .i64 k)).setCell ⟨w.heap.size, 3, none⟩ (.slice la L lc) = w2 at HD2 HRB HSS ⊢
        refine (must_false _).mono ?_
        rintro e w3 ⟨rfl, rfl⟩
        go_wp2_with fail
        exact dec_caught xs w _ _ _ _ _ _ HD2.out HDR.out rfl rfl
  · have hl2 : (262144 : Int) < (xs.length : Int) := by omega
    have HR : Hid (DecRes xs 2 0 ⟨#[]⟩ 0 []) := ⟨fun _ => ⟨rfl, rfl, rfl, rfl, rfl⟩, fun R h => absurd h hl, fun h => absurd h hl⟩
    obtain ⟨N, hN⟩ : ∃ N, xs.length = N := ⟨_, rfl⟩
    rw [hN] at hl2 ⊢
    clear hg hx hb hm hc hcm hl hN
    go_enter_defers Tryz.func13, Tryz.ntmps13
    go_wp2_with fail
    exact ⟨_, results_cells rfl _ _ w.heap.size (w.heap.size + 1) 24 _ (0, 0) _ (.int .i64 2) rfl rfl (new_old (heap_alloc_new _ _) _) Tryz.underlying24 rfl (by kernel_rfl) (load_errno (heap_new' (by simp))), 0, ⟨#[]⟩, 0, none, 0, [], 2, rfl, .inl rfl, HR.out, ((Below.refl _ _).alloc (Nat.le_refl _) _).alloc (by simp) _, Nat.le_refl _⟩
end Go.Proofs.YtbamkdohaofgdaaGreatDoor.W
