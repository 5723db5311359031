/-
  WireNested: the walk.
-/
import Derived.Test.YtdjibjmhjofedabWNest4
namespace Go.Proofs.Ytdjibjmhjofedab
open Go.RowKit Go.Shelf
set_option linter.unusedVariables false
attribute [local go_sem] Oper.semAt_some

set_option maxRecDepth 100000 in
set_option maxHeartbeats 6400000 in
theorem nested_small (aa ab ac : Option Addr) (ca cb cc : Nat) (ps qs rs : List Pc) (inner : Int) (w : World) (hp : Pcs w aa ps) (hq : Pcs w ab qs) (hr : Pcs w ac rs)
    (hps : (bodyOf ps).length ≤ 20000 ∧ ps.length ≤ 24) (hqs : (bodyOf qs).length ≤ 20000 ∧ qs.length ≤ 24) (hrs : (bodyOf rs).length ≤ 20000 ∧ rs.length ≤ 24) (hin : -9223372036854775808 ≤ inner ∧ inner ≤ 9223372036854775807) :
    Calls Try.prog 8 #[.slice aa ps.length ca, .slice ab qs.length cb, .slice ac rs.length cc, .int .i64 inner] w fun e w' => e = .returned (.bool true) ∧ Below w.heap.size w w' := by
  refine (callsIn_wide (n := 6)).1 ?_
  refine callsIn_of_wp_marks Try.func8 rfl trivial ?_ rfl
  simp only [Try.ntmps8, List.size_toArray, List.length_cons, List.length_nil, Nat.reduceAdd, Nat.reduceSub, Array.replicate_succ, Array.replicate_zero, List.push_toArray, List.append_toArray, List.nil_append, List.cons_append]
  have heq := eql_func_nil
  have HSP : Hid _ := fun w (h : Pcs w aa ps) => small_any aa ca ps w h (by omega) (fun _ => by omega)
  have HSQ : Hid _ := fun w (h : Pcs w ab qs) => small_any ab cb qs w h (by omega) (fun _ => by omega)
  have HSR : Hid _ := fun w (h : Pcs w ac rs) => small_any ac cc rs w h (by omega) (fun _ => by omega)
  rw [decide_eq_true hps] at HSP
  rw [decide_eq_true hqs] at HSQ
  rw [decide_eq_true hrs] at HSR
  obtain ⟨hp1, hp2⟩ := hps
  obtain ⟨hq1, hq2⟩ := hqs
  obtain ⟨hr1, hr2⟩ := hrs
  have HJP : Hid _ := joined_bl aa ca ps hp2 hp1
  have HJQ : Hid _ := joined_bl ab cb qs hq2 hq1
  have HJR : Hid _ := joined_bl ac cc rs hr2 hr1
  have HP : Hid (Pcs w aa ps) := hp
  have HQ : Hid (Pcs w ab qs) := hq
  have HR : Hid (Pcs w ac rs) := hr
  clear hp hq hr hp2 hq2 hr2
  generalize bodyOf ps = A at *
  generalize bodyOf qs = B at *
  generalize bodyOf rs = C at *
  -- the boxes of b, inner and the result
  obtain ⟨w1, hw1⟩ : ∃ w1, ((w.alloc (.cells #[.slice ab qs.length cb] 37)).alloc (.cells #[.int .i64 inner] 3)).alloc (.cells #[.bool false] 4) = w1 := ⟨_, rfl⟩
  have HB1 : Hid (Below w.heap.size w w1) := by rw [← hw1]; exact (((Below.refl _ w).alloc (Nat.le_refl _) _).alloc (by simp) _).alloc (by simp; omega) _
  have hx1 : w1.heap[w.heap.size]? = some (.cells #[.slice ab qs.length cb] 37 (0, 0)) := by rw [← hw1]; exact (Below.heap_alloc _ _ _ (by simp; omega)).trans ((Below.heap_alloc _ _ _ (by simp)).trans (World.alloc_heap_new w _))
  have hx2 : w1.heap[w.heap.size + 1]? = some (.cells #[.int .i64 inner] 3 (0, 0)) := by
    rw [← hw1]
    refine (Below.heap_alloc _ _ _ (by simp)).trans ?_
    have := World.alloc_heap_new (w.alloc (.cells #[.slice ab qs.length cb] 37)) (.cells #[.int .i64 inner] 3)
    rwa [World.size_alloc] at this
  have hx3 : w1.heap[w.heap.size + 1 + 1]? = some (.cells #[.bool false] 4 (0, 0)) := by
    rw [← hw1]
    have := World.alloc_heap_new ((w.alloc (.cells #[.slice ab qs.length cb] 37)).alloc (.cells #[.int .i64 inner] 3)) (.cells #[.bool false] 4)
    rwa [World.size_alloc, World.size_alloc] at this
  have hcb1 : w1.cell? ⟨w.heap.size, 0, none⟩ = some (.slice ab qs.length cb) := (cell_blk hx1 0).trans rfl
  have HX : Hid (w1.heap[w.heap.size]? = some (.cells #[.slice ab qs.length cb] 37 (0, 0)) ∧ w1.heap[w.heap.size + 1]? = some (.cells #[.int .i64 inner] 3 (0, 0)) ∧ w1.heap[w.heap.size + 1 + 1]? = some (.cells #[.bool false] 4 (0, 0))) := ⟨hx1, hx2, hx3⟩
  clear hx1 hx2 hx3
  gi_wp2_with fail
  refine ⟨trivial, ?_⟩
  refine (callsIn_wide.2 (HSP.out _ (HP.out.below HB1.out))).mono ?_
  rintro e w1 ⟨rfl, rfl⟩
  gi_wp2_with fail
  refine ⟨trivial, ?_⟩
  refine (callsIn_wide.2 (HSQ.out _ (HQ.out.below HB1.out))).mono ?_
  rintro e w1 ⟨rfl, rfl⟩
  gi_wp2_with fail
  refine ⟨trivial, ?_⟩
  refine (callsIn_wide.2 (HSR.out _ (HR.out.below HB1.out))).mono ?_
  rintro e w1 ⟨rfl, rfl⟩
  clear HSP HSQ HSR
  gi_wp2_with fail
  refine ⟨trivial, ?_⟩
  refine (callsIn_wide.2 (HJP.out _ (HP.out.below HB1.out))).mono ?_
  rintro e w2 ⟨a1, c1, rfl, hbl, hb⟩
  have HA2 : Hid (Bl w2 a1 c1 A) := hbl
  have HW2 : Hid (Below w1.heap.size w1 w2) := hb
  have hcb2 : w2.cell? ⟨w.heap.size, 0, none⟩ = some (.slice ab qs.length cb) := (hb.cell (p := ⟨w.heap.size, 0, none⟩) (World.block_lt_of_cell? _ _ hcb1)).trans hcb1
  clear hbl hb HJP
  gi_wp2_with fail
  refine ⟨trivial, ?_⟩
  refine (callsIn_wide.2 (HJQ.out _ (HQ.out.below (trans2 HB1.out HW2.out)))).mono ?_
  rintro e w3 ⟨a2, c2, rfl, hbl, hb⟩
  have HA3 : Hid (Bl w3 a1 c1 A) := HA2.out.below hb
  have HB3 : Hid (Bl w3 a2 c2 B) := hbl
  have HW3 : Hid (Below w1.heap.size w1 w3) := trans2 HW2.out hb
  clear hbl hb HA2 HW2 hcb2
  gi_wp2_with fail
  refine ⟨trivial, ?_⟩
  refine (callsIn_wide.2 (pair_joined HA3.out HB3.out (by rw [List.length_append]; omega) _)).mono ?_
  rintro e w4 ⟨a3, c3, rfl, hbl, hb⟩
  obtain ⟨AB, hAB⟩ : ∃ X, X = A ++ B := ⟨_, rfl⟩
  have hABl : AB.length ≤ 40000 := by rw [hAB, List.length_append]; omega
  rw [← hAB] at hbl ⊢
  have HABE : Hid (AB = A ++ B) := hAB
  clear hAB
  have HA4 : Hid (Bl w4 a1 c1 A) := HA3.out.below hb
  have HAB4 : Hid (Bl w4 a3 c3 AB) := hbl
  have HW4 : Hid (Below w1.heap.size w1 w4) := trans2 HW3.out hb
  clear hbl hb HA3 HB3 HW3
  gi_wp2_with fail
  refine ⟨trivial, ?_⟩
  refine (callsIn_wide.2 (HJR.out _ (HR.out.below (trans2 HB1.out HW4.out)))).mono ?_
  rintro e w5 ⟨a4, c4, rfl, hbl, hb⟩
  have HA5 : Hid (Bl w5 a1 c1 A) := HA4.out.below hb
  have HAB5 : Hid (Bl w5 a3 c3 AB) := HAB4.out.below hb
  have HC5 : Hid (Bl w5 a4 c4 C) := hbl
  have HW5 : Hid (Below w1.heap.size w1 w5) := trans2 HW4.out hb
  clear hbl hb HA4 HAB4 HW4
  gi_wp2_with fail
  refine ⟨trivial, ?_⟩
  refine (callsIn_wide.2 (pair_joined HAB5.out HC5.out (by rw [List.length_append]; omega) _)).mono ?_
  rintro e w6 ⟨a5, c5, rfl, hbl, hb⟩
  obtain ⟨ABC, hABC⟩ : ∃ X, X = AB ++ C := ⟨_, rfl⟩
  have hABCl : ABC.length ≤ 60000 := by rw [hABC, List.length_append]; omega
  rw [← hABC] at hbl ⊢
  have HABCE : Hid (ABC = AB ++ C) := hABC
  clear hABC
  have HA6 : Hid (Bl w6 a1 c1 A) := HA5.out.below hb
  have HAB6 : Hid (Bl w6 a3 c3 AB) := HAB5.out.below hb
  have HABC6 : Hid (Bl w6 a5 c5 ABC) := hbl
  have HW6 : Hid (Below w1.heap.size w1 w6) := trans2 HW5.out hb
  clear hbl hb HA5 HAB5 HC5 HW5
  gi_wp2_with fail
  refine ⟨trivial, ?_⟩
  refine (callsIn_wide.2 (says_bl HA6.out (by omega))).mono ?_
  rintro e w7 ⟨la1, lc1, gs1, rfl, hg1, hsd, hb⟩
  have HA7 : Hid (Bl w7 a1 c1 A) := HA6.out.below hb
  have HAB7 : Hid (Bl w7 a3 c3 AB) := HAB6.out.below hb
  have HABC7 : Hid (Bl w7 a5 c5 ABC) := HABC6.out.below hb
  have HW7 : Hid (Below w1.heap.size w1 w7) := trans2 HW6.out hb
  have hn1 : gs1.length = (dec A).1.length := by have := congrArg List.length hg1; rwa [List.length_map] at this
  clear hsd hb hg1 HA6 HAB6 HABC6 HW6
  rw [hn1]
  gi_wp2_with fail
  refine ⟨trivial, ?_⟩
  refine (callsIn_wide.2 (says_bl HAB7.out (by omega))).mono ?_
  rintro e w8 ⟨la2, lc2, gs2, rfl, hg2, hsd, hb⟩
  have HA8 : Hid (Bl w8 a1 c1 A) := HA7.out.below hb
  have HABC8 : Hid (Bl w8 a5 c5 ABC) := HABC7.out.below hb
  have HW8 : Hid (Below w1.heap.size w1 w8) := trans2 HW7.out hb
  have hn2 : gs2.length = (dec AB).1.length := by have := congrArg List.length hg2; rwa [List.length_map] at this
  clear hsd hb hg2 HA7 HAB7 HABC7 HW7
  rw [hn2]
  gi_wp2_with fail
  refine ⟨trivial, ?_⟩
  refine (callsIn_wide.2 (says_bl HABC8.out (by omega))).mono ?_
  rintro e w9 ⟨la3, lc3, gs, rfl, hg3, hsd, hb⟩
  have HA9 : Hid (Bl w9 a1 c1 A) := HA8.out.below hb
  have HW9 : Hid (Below w1.heap.size w1 w9) := trans2 HW8.out hb
  have HSD : Hid (Sd w9 (.slice la3 gs.length lc3) gs) := hsd
  have HG : Hid (gs.map (·.2) = (dec ABC).1) := hg3
  clear hsd hb hg3 HA8 HABC8 HW8
  -- what lies ahead of the stream
  obtain ⟨W0, hW0⟩ : ∃ W0, w9.alloc (.cells #[.slice la3 gs.length lc3] 37) = W0 := ⟨_, rfl⟩
  have hs0 : W0.heap.size = w9.heap.size + 1 := by rw [← hW0]; simp
  have al0 : Below w9.heap.size w9 W0 := by rw [← hW0]; exact (Below.refl _ _).alloc (Nat.le_refl _) _
  have hwb : W0.heap[w9.heap.size]? = some (.cells #[.slice la3 gs.length lc3] 37 (0, 0)) := by rw [← hW0]; exact World.alloc_heap_new w9 _
  have HWB : Hid (W0.heap[w9.heap.size]? = some (.cells #[.slice la3 gs.length lc3] 37 (0, 0))) := hwb
  have HA0 : Hid (Bl W0 a1 c1 A) := HA9.out.below al0
  have HSD0 : Hid (Sd W0 (.slice la3 gs.length lc3) gs) := HSD.out.below al0
  have HW0 : Hid (Below w1.heap.size w1 W0) := trans2 HW9.out al0
  have hwbl : w9.heap.size < W0.heap.size := by omega
  have HN0 : Hid (NI W0 W0.heap.size [] 0 [(W0.heap.size + 1, .pointer (some ⟨W0.heap.size, 0, none⟩), 47)] ((W0.alloc (.cells #[.slice none 0 0, .slice none 0 0, .int .i64 0] 52)).alloc (.cells #[.pointer (some ⟨W0.heap.size, 0, none⟩)] 47))) := by
    have h := (Ne.zero (W0 := W0) (W := W0) (Below.refl _ _)).alloc (.pointer (some ⟨W0.heap.size, 0, none⟩)) 47 (by decide) (by decide) (by decide)
    rw [World.size_alloc] at h
    exact ⟨_, _, _, h⟩
  have HA0' : Hid (Bl ((W0.alloc (.cells #[.slice none 0 0, .slice none 0 0, .int .i64 0] 52)).alloc (.cells #[.pointer (some ⟨W0.heap.size, 0, none⟩)] 47)) a1 c1 A) := HA0.out.below (((Below.refl _ _).alloc (Nat.le_refl _) _).alloc (by simp) _)
  have HS0 : Hid (W0.heap.size = w9.heap.size + 1) := hs0
  have HCBL : Hid (w.heap.size < W0.heap.size) := Nat.lt_of_lt_of_le (lt_of_blk HX.out.1) HW0.out.size
  have HCB0 : Hid (W0.cell? ⟨w.heap.size, 0, none⟩ = some (.slice ab qs.length cb)) := (HW0.out.cell (p := ⟨w.heap.size, 0, none⟩) (lt_of_blk HX.out.1)).trans hcb1
  have HCIL : Hid (w.heap.size + 1 < W0.heap.size) := Nat.lt_of_lt_of_le (lt_of_blk HX.out.2.1) HW0.out.size
  have HCI0 : Hid (W0.cell? ⟨w.heap.size + 1, 0, none⟩ = some (.int .i64 inner)) := (HW0.out.cell (p := ⟨w.heap.size + 1, 0, none⟩) (lt_of_blk HX.out.2.1)).trans ((cell_blk HX.out.2.1 0).trans rfl)
  clear HA9 HSD HW9 al0 hwb HA0 hs0
  obtain ⟨NA, hNA⟩ : ∃ N, N = (dec A).1.length := ⟨_, rfl⟩
  obtain ⟨NAB, hNAB⟩ : ∃ N, N = (dec AB).1.length := ⟨_, rfl⟩
  rw [← hNA, ← hNAB]
  rw [← hNA] at hn1
  have HNA : Hid (NA = (dec A).1.length) := hNA
  have HNAB : Hid (NAB = (dec AB).1.length) := hNAB
  clear hNA hNAB hn1 hn2
  have hNAi : NA = 0 ∨ ¬ ((NA : Int) = 0) := by omega
  rcases hNAi with hz | hz
  · subst hz
    gi_wp2_with fail
    refine ⟨trivial, ?_⟩
    refine (callsIn_wide.2 (ni_feed HN0.out HA0'.out (by simp; omega))).mono ?_
    rintro e w11 ⟨⟨v, rfl⟩, hN, hk⟩
    rw [List.nil_append] at hN
    have HN : Hid (NI W0 W0.heap.size A 0 [(W0.heap.size + 1, .pointer (some ⟨W0.heap.size, 0, none⟩), 47)] w11) := hN
    have hcs := (hN.cell (.head _)).1
    clear hN hk HN0 HA0' hW0
    gi_wp2_with (refine ⟨trivial, ?_⟩; gi_at_call 31; refine (callsIn_wide.2 (bodies_any _ _)).mono ?_; rintro e w' ⟨rfl, rfl⟩)
    obtain ⟨bf, hbf⟩ : ∃ bf : Nat → List Bx, bf = fun m => [(w11.heap.size + 1, .int .i64 m, 3), (w11.heap.size, .pointer (some ⟨W0.heap.size, 0, none⟩), 47), (W0.heap.size + 1, .pointer (some ⟨W0.heap.size, 0, none⟩), 47)] := ⟨_, rfl⟩
    have HBF : Hid (bf = _) := hbf
    have HN2 : Hid (NI W0 W0.heap.size A 0 (bf 0) ((w11.alloc (.cells #[.pointer (some ⟨W0.heap.size, 0, none⟩)] 47)).alloc (.cells #[.int .i64 0] 3))) := by
      have h := (HN.out.alloc (.pointer (some ⟨W0.heap.size, 0, none⟩)) 47 (by decide) (by decide) (by decide)).alloc (.int .i64 0) 3 (by decide) (by decide) (by decide)
      rw [World.size_alloc] at h
      rw [hbf]
      exact h
    have hB2 : W0.heap.size ≤ ((w11.alloc (.cells #[.pointer (some ⟨W0.heap.size, 0, none⟩)] 47)).alloc (.cells #[.int .i64 0] 3)).heap.size := HN2.out.bel.size
    have HLT : Hid (W0.heap.size + 1 < w11.heap.size) := HN.out.lt (.head _)
    clear hcs HN hbf
    generalize ((w11.alloc (.cells #[.pointer (some ⟨W0.heap.size, 0, none⟩)] 47)).alloc (.cells #[.int .i64 0] 3)) = w12 at HN2 hB2 ⊢
    refine wpIn_range_st1 (σ := Nat) (by decide) (gf := 43) (lb := #[.pointer (some ⟨w11.heap.size, 0, none⟩)]) rfl (enters_of Try.func43 (by kernel_rfl) rfl) (by simp)
      (I := LI W0 W0.heap.size (fun m => if m = 0 then A else AB) bf (fun m => m = 0 ∨ 0 < (dec A).1.length) (fun _ => True))
      (ni_seq _ w11.heap.size _ (dec AB).1.length 0 (fun _ _ => False) (fun m => by rw [HBF.out]; simp) (fun _ _ _ h => h))
      (LI.own hB2 (fun _ _ _ _ h _ _ => h)) (fun m x => LY.own hB2 (fun _ _ _ _ h _ _ => h) m x) (fun _ _ _ _ h _ _ => h) (LE.own hB2 (fun _ _ _ _ h _ _ => h)) ⟨HN2.out, .inl rfl, trivial⟩ ?body ?done (fun D c W hD hX => hX.elim)
    case body =>
      rintro l m x W hl hrec ⟨xa, xn, xc, xs, rfl, hN, hrow, hxs, hg, -⟩
      dsimp only at hxs hg hN
      have h0 : (dec A).1.length = 0 := HNA.out.symm
      rcases hg with rfl | hg
      · rw [if_pos rfl] at hxs
        have := (List.getElem?_eq_some_iff.1 hxs).1
        omega
      · omega
    case done =>
      rintro D W hD ⟨m, hm, hN, hg, -⟩ hDf
      dsimp only at hm hg hN
      have h0 : (dec A).1.length = 0 := HNA.out.symm
      obtain rfl : m = 0 := by rcases hg with h | h; exact h; omega
      rw [if_pos rfl] at hm hN
      have HN3 : Hid (NI W0 W0.heap.size A 0 (bf 0) W) := hN
      have HDF : Hid (W.heap[D]? = some (.deferred (some []))) := hDf
      have hkW : W.cell? ⟨w11.heap.size + 1, 0, none⟩ = some (.int .i64 0) := (HN3.out.cell (t := 3) (by rw [HBF.out]; exact .head _)).1
      clear hN hm hg hDf h0
      gi_wp2_with fail
      refine region_held (S := (fun w' => w'.cell? ⟨W0.heap.size + 1, 0, none⟩ = some (.pointer (some ⟨W0.heap.size, 0, none⟩)) ∧ w'.cell? ⟨w.heap.size, 0, none⟩ = some (.slice ab qs.length cb))) (by kernel_rfl) (by kernel_rfl) (⟨(HN3.out.cell (t := 47) (by rw [HBF.out]; exact .tail _ (.tail _ (.head _)))).1, (HN3.out.bel.cell (p := ⟨w.heap.size, 0, none⟩) HCBL.out).trans HCB0.out⟩) (fun hHeld => ?_)
      refine wpAnyH_take (i := 0) (v := ?vp_0) rfl (by kernel_rfl) (by kernel_rfl) (by kernel_rfl) (fun _ _ _ h => h) ?hyp_0 hHeld ?hp_0
      case hyp_0 => refine Or.inl ⟨by rfl, ?_⟩; intro w hSw; obtain ⟨hh1, hh2⟩ := hSw; go_simp <;> with_reducible rfl
      simp only [List.getElem_toArray, List.getElem_cons_zero, Act.put, List.setIfInBounds_toArray, List.set_cons_zero, List.set_cons_succ]
      refine wpAnyH_take (i := 1) (v := ?vp_1) rfl (by kernel_rfl) (by kernel_rfl) (by kernel_rfl) (fun _ _ _ h => h) ?hyp_1 hHeld ?hp_1
      case hyp_1 => refine Or.inl ⟨by rfl, ?_⟩; intro w hSw; obtain ⟨hh1, hh2⟩ := hSw; go_simp <;> with_reducible rfl
      simp only [List.getElem_toArray, List.getElem_cons_succ, List.getElem_cons_zero, Act.put, List.setIfInBounds_toArray, List.set_cons_zero, List.set_cons_succ]
      refine wpAnyH_ready (rs := [2]) (by kernel_rfl) (by simp) ?_
      refine AllReadyH.cons rfl (fun K hK => ?_) AllReadyH.nil
      go_simp
      refine (HJQ.out _ (HQ.out.below ((trans2 (trans2 HB1.out HW0.out) HN3.out.bel).drew))).mono ?_
      rintro e Wp1 ⟨ap, cp, rfl, hbl, hb'⟩
      have hb := undrew hb'
      have HNp1 : Hid (NI W0 W0.heap.size A 0 (bf 0) Wp1) := NI.below HN3.out hb
      have HDp1 : Hid (Wp1.heap[D]? = some (.deferred (some []))) := keeps_deferred _ _ (keeps_below hb) HDF.out
      have HBp1 : Hid (Bl Wp1 ap cp B) := hbl
      refine hK.out _ _ (⟨(HNp1.out.cell (t := 47) (by rw [HBF.out]; exact .tail _ (.tail _ (.head _)))).1, (HNp1.out.bel.cell (p := ⟨w.heap.size, 0, none⟩) HCBL.out).trans HCB0.out⟩) (fun hHeld => ?_)
      clear hK K hbl hb hb' hHeld
      try simp only [List.getElem_toArray, List.getElem_cons_succ, List.getElem_cons_zero, Act.put, List.setIfInBounds_toArray, List.set_cons_zero, List.set_cons_succ]
      refine wpAnyH_ready (rs := [3]) (by kernel_rfl) (by simp) ?_
      refine AllReadyH.cons rfl (fun K hK => ?_) AllReadyH.nil
      go_simp
      refine (ni_feed HNp1.out HBp1.out (by rw [List.length_append]; omega)).mono ?_
      rintro e Wp2 ⟨⟨vp, rfl⟩, hNx, hkx⟩
      rw [← HABE.out] at hNx
      have HNp : Hid (NI W0 W0.heap.size AB 0 (bf 0) Wp2) := hNx
      have HDp : Hid (Wp2.heap[D]? = some (.deferred (some []))) := keeps_deferred _ _ hkx HDp1.out
      refine hK.out _ _ (⟨(HNp.out.cell (t := 47) (by rw [HBF.out]; exact .tail _ (.tail _ (.head _)))).1, (HNp.out.bel.cell (p := ⟨w.heap.size, 0, none⟩) HCBL.out).trans HCB0.out⟩) (fun hHeld => ?_)
      clear hK K hHeld hNx hkx HNp1 HDp1 HBp1
      refine wpAnyH_done (by kernel_rfl) (NoOut.normal ?_) _
      gi_wp2_with fail
      refine region_held (S := (fun w' => w'.cell? ⟨W0.heap.size + 1, 0, none⟩ = some (.pointer (some ⟨W0.heap.size, 0, none⟩)))) (by kernel_rfl) (by kernel_rfl) ((HNp.out.cell (t := 47) (by rw [HBF.out]; exact .tail _ (.tail _ (.head _)))).1) (fun hHeld => ?_)
      refine wpAnyH_take (i := 0) (v := ?vq_0) rfl (by kernel_rfl) (by kernel_rfl) (by kernel_rfl) (fun _ _ _ h => h) ?hyq_0 hHeld ?hq_0
      case hyq_0 => refine Or.inl ⟨by rfl, ?_⟩; intro w hSw; have hh1 := hSw; go_simp <;> with_reducible rfl
      simp only [List.getElem_toArray, List.getElem_cons_zero, Act.put, List.setIfInBounds_toArray, List.set_cons_zero, List.set_cons_succ]
      refine wpAnyH_take (i := 1) (v := ?vq_1) rfl (by kernel_rfl) (by kernel_rfl) (by kernel_rfl) (fun _ _ _ h => h) ?hyq_1 hHeld ?hq_1
      case hyq_1 => refine Or.inl ⟨by rfl, ?_⟩; intro w hSw; have hh1 := hSw; go_simp <;> with_reducible rfl
      simp only [List.getElem_toArray, List.getElem_cons_succ, List.getElem_cons_zero, Act.put, List.setIfInBounds_toArray, List.set_cons_zero, List.set_cons_succ]
      refine wpAnyH_ready (rs := [2]) (by kernel_rfl) (by simp) ?_
      refine AllReadyH.cons rfl (fun K hK => ?_) AllReadyH.nil
      go_simp
      refine (HJR.out _ (HR.out.below ((trans2 (trans2 HB1.out HW0.out) HNp.out.bel).drew))).mono ?_
      rintro e Wq1 ⟨aq, cq, rfl, hbl, hb'⟩
      have hb := undrew hb'
      have HNq1 : Hid (NI W0 W0.heap.size AB 0 (bf 0) Wq1) := NI.below HNp.out hb
      have HDq1 : Hid (Wq1.heap[D]? = some (.deferred (some []))) := keeps_deferred _ _ (keeps_below hb) HDp.out
      have HBq1 : Hid (Bl Wq1 aq cq C) := hbl
      refine hK.out _ _ ((HNq1.out.cell (t := 47) (by rw [HBF.out]; exact .tail _ (.tail _ (.head _)))).1) (fun hHeld => ?_)
      clear hK K hbl hb hb' hHeld
      try simp only [List.getElem_toArray, List.getElem_cons_succ, List.getElem_cons_zero, Act.put, List.setIfInBounds_toArray, List.set_cons_zero, List.set_cons_succ]
      refine wpAnyH_ready (rs := [3]) (by kernel_rfl) (by simp) ?_
      refine AllReadyH.cons rfl (fun K hK => ?_) AllReadyH.nil
      go_simp
      refine (ni_feed HNq1.out HBq1.out (by rw [List.length_append]; omega)).mono ?_
      rintro e Wq2 ⟨⟨vq, rfl⟩, hNx, hkx⟩
      rw [← HABCE.out] at hNx
      have HNq : Hid (NI W0 W0.heap.size ABC 0 (bf 0) Wq2) := hNx
      have HDq : Hid (Wq2.heap[D]? = some (.deferred (some []))) := keeps_deferred _ _ hkx HDq1.out
      refine hK.out _ _ ((HNq.out.cell (t := 47) (by rw [HBF.out]; exact .tail _ (.tail _ (.head _)))).1) (fun hHeld => ?_)
      clear hK K hHeld hNx hkx HNq1 HDq1 HBq1
      refine wpAnyH_done (by kernel_rfl) (NoOut.normal ?_) _
      gi_wp2_with fail
      have hBr : W0.heap.size ≤ Wq2.heap.size := HNq.out.bel.size
      have hDl : D < Wq2.heap.size := (Array.getElem?_eq_some_iff.1 HDq.out).1
      refine wpIn_range_st1 (σ := Nat) (by decide) (gf := 43) (lb := #[.pointer (some ⟨w11.heap.size, 0, none⟩)]) rfl (enters_of Try.func43 (by kernel_rfl) rfl) (by simp)
        (I := LI W0 W0.heap.size (fun _ => ABC) bf (fun _ => True) (fun V => V.heap[D]? = some (.deferred (some []))))
        (ni_seq _ w11.heap.size _ (dec ABC).1.length 0 (fun _ _ => False) (fun m => by rw [HBF.out]; simp) keeps_deferred)
        (LI.own hBr (own_deferred hDl)) (fun m x => LY.own hBr (own_deferred hDl) m x) (fun _ _ _ _ h _ _ => h) (LE.own hBr (own_deferred hDl)) ⟨HNq.out, trivial, HDq.out⟩ ?bodyq ?doneq (fun D c W hD hX => hX.elim)
      case bodyq =>
        simp only [List.setIfInBounds_toArray, List.set_cons_zero, List.set_cons_succ]
        rintro l m x V hl hrec2 ⟨ya, yn, yc, zs, rfl, hN, hrow, hxs, -, hZ⟩
        dsimp only at hxs hN hZ
        obtain ⟨p, hp, hpx⟩ : ∃ p, gs[m]? = some p ∧ p.2 = zs := by
          rw [← HG.out, List.getElem?_map] at hxs
          cases h : gs[m]? with
          | none => rw [h] at hxs; cases hxs
          | some p => rw [h] at hxs; exact ⟨p, rfl, Option.some.inj hxs⟩
        have hmg : m < gs.length := (List.getElem?_eq_some_iff.1 hp).1
        obtain ⟨vg, va, vc, hla, hcell, hbys⟩ := (HSD0.out.below (NI.bel hN)).at hp
        rw [hpx] at hcell hbys
        have hwV : V.cell? ⟨w9.heap.size, 0, none⟩ = some (.slice (some ⟨vg, 0, none⟩) gs.length lc3) := by
          rw [(NI.bel hN).cell (p := ⟨w9.heap.size, 0, none⟩) hwbl, cell_blk HWB.out 0, ← hla]
          rfl
        have hkV : V.cell? ⟨w11.heap.size + 1, 0, none⟩ = some (.int .i64 m) := (NI.cell hN (t := 3) (by rw [HBF.out]; exact .head _)).1
        have HROW : Hid (V.ownsRow 0 5 1 (.slice ya yn yc) zs.length (bv zs)) := hrow
        have HBY : Hid (Bys V va zs) := hbys
        have HN3 : Hid (NI W0 W0.heap.size ABC (m + 1) (bf m) V) := hN
        have HZ : Hid (V.heap[D]? = some (.deferred (some []))) := hZ
        have hmi : ¬ ((gs.length : Int) ≤ (m : Int)) := by omega
        clear hrow hbys hN hxs hp hpx hla hZ
        gi_wp2_with fail
        refine ⟨trivial, ?_⟩
        refine (calls_round (same_bl HROW.out HBY.out)).mono ?_
        rintro e V1 ⟨rfl, d, hd⟩
        have hb1 : Below V.heap.size V V1 := by rw [hd]; exact below_drewN (Below.refl _ _) d
        have HN4 : Hid (NI W0 W0.heap.size ABC (m + 1) (bf m) V1) := NI.below HN3.out hb1
        obtain ⟨hkV1, hkf1⟩ := HN4.out.cell (k := w11.heap.size + 1) (v := .int .i64 m) (t := 3) (by rw [HBF.out]; exact .head _)
        have HK2 : Hid (KeepsOthers V (V1.setCell ⟨w11.heap.size + 1, 0, none⟩ (.int .i64 ((m : Int) + 1)))) := (keeps_below hb1).trans (KeepsOthers.setCell _ _ _)
        have e1 : ((m + 1 : Nat) : Int) = (m : Int) + 1 := by omega
        have HN5 : Hid (NI W0 W0.heap.size ABC (m + 1) (bf (m + 1)) (V1.setCell ⟨w11.heap.size + 1, 0, none⟩ (.int .i64 ((m : Int) + 1)))) := by
          have h := HN4.out
          rw [HBF.out] at h ⊢
          dsimp only at h ⊢
          rw [e1]
          refine h.set (fun q hq => ?_)
          have := HLT.out
          simp only [List.mem_cons, List.not_mem_nil, or_false] at hq
          rcases hq with rfl | rfl
          · show w11.heap.size ≠ w11.heap.size + 1; omega
          · show W0.heap.size + 1 ≠ w11.heap.size + 1; omega
        have HWR : Hid (wrap64 ((m : Int) + 1) = (m : Int) + 1) := by
          have := HN5.out.le
          have := (dec_count ABC).1
          show wrap64 ((m : Int) + 1) = (m : Int) + 1
          unfold wrap64
          omega
        clear hd hb1 HN3 HN4 HROW HBY hkV hwV hcell e1
        gi_wp2_with fail
        try rw [HWR.out]
        exact ⟨HK2.out.from _, m + 1, ⟨by omega, HN5.out.le⟩, HN5.out, trivial, keeps_deferred _ _ HK2.out HZ.out⟩
      case doneq =>
        rintro D2 V hD2 ⟨k, hk, hN, -, hZ⟩ hDf2
        dsimp only at hk hN hZ
        have hkg : k = gs.length := by
          rw [hk, ← HG.out, List.length_map]
        rw [hkg] at hN
        have HN6 : Hid (NI W0 W0.heap.size ABC gs.length (bf gs.length) V) := hN
        have hkV : V.cell? ⟨w11.heap.size + 1, 0, none⟩ = some (.int .i64 gs.length) := (HN6.out.cell (t := 3) (by rw [HBF.out]; exact .head _)).1
        have HD1 : Hid (V.heap[D]? = some (.deferred (some []))) := hZ
        have HD2 : Hid (V.heap[D2]? = some (.deferred (some []))) := hDf2
        clear hN hk hkg hZ hDf2
        have hc1 := conv_at V #[.int .u8 97] 1 1 V.heap.size rfl
        gi_wp2_with fail
        clear hc1
        refine ⟨trivial, ?_⟩
        refine (callsIn_wide.2 (one_frame V)).mono ?_
        rintro e V2 ⟨fa, fc, rfl, hb2⟩
        have HN7 : Hid (NI W0 W0.heap.size ABC gs.length (bf gs.length) V2) := NI.below HN6.out hb2
        have hkV2 : V2.cell? ⟨w11.heap.size + 1, 0, none⟩ = some (.int .i64 gs.length) := (HN7.out.cell (t := 3) (by rw [HBF.out]; exact .head _)).1
        have hwV2 : V2.cell? ⟨w9.heap.size, 0, none⟩ = some (.slice la3 gs.length lc3) := by
          rw [HN7.out.bel.cell (p := ⟨w9.heap.size, 0, none⟩) hwbl, cell_blk HWB.out 0]
          rfl
        have hsV2 : V2.cell? ⟨W0.heap.size + 1, 0, none⟩ = some (.pointer (some ⟨W0.heap.size, 0, none⟩)) := (HN7.out.cell (t := 47) (by rw [HBF.out]; exact .tail _ (.tail _ (.head _)))).1
        have HSK : Hid (V2.cell? ⟨W0.heap.size, 2, none⟩ = some (.int .i64 ((dec ABC).2.1 : Nat))) := HN7.out.skipped
        have HRB : Hid (V2.heap[w.heap.size + 1 + 1]? = some (.cells #[.bool false] 4 (0, 0))) := (HN7.out.bel.block _ (Nat.lt_of_lt_of_le (lt_of_blk HX.out.2.2) HW0.out.size)).trans ((HW0.out.block _ (lt_of_blk HX.out.2.2)).trans HX.out.2.2)
        have hrV2 : V2.cell? ⟨w.heap.size + 1 + 1, 0, none⟩ = some (.bool false) := (cell_blk HRB.out 0).trans rfl
        have hrf2 : V2.frozen? ⟨w.heap.size + 1 + 1, 0, none⟩ = false := frozen_blk HRB.out 0
        have HDa : Hid (V2.heap[D]? = some (.deferred (some []))) := keeps_deferred _ _ (keeps_below hb2) HD1.out
        have HDb : Hid (V2.heap[D2]? = some (.deferred (some []))) := keeps_deferred _ _ (keeps_below hb2) HD2.out
        clear hb2 HN6 HD1 HD2 hkV
        gi_wp2_with fail
        refine ⟨trivial, ?_⟩
        refine (callsIn_wide.2 (skipped_st _ _ _ HSK.out)).mono ?_
        rintro e V2 ⟨rfl, rfl⟩
        gi_wp2_with fail
        clear hkV2 hwV2 hsV2 hrV2 hrf2
        have hDD : D ≠ D2 := by omega
        have hDb3 : (V2.setCell ⟨w.heap.size + 1 + 1, 0, none⟩ (.bool true)).heap[D2]? = some (.deferred (some [])) := keeps_deferred _ _ (KeepsOthers.setCell _ _ _) HDb.out
        have hDa3 : (V2.setCell ⟨w.heap.size + 1 + 1, 0, none⟩ (.bool true)).heap[D]? = some (.deferred (some [])) := keeps_deferred _ _ (KeepsOthers.setCell _ _ _) HDa.out
        have hR3 : (V2.setCell ⟨w.heap.size + 1 + 1, 0, none⟩ (.bool true)).heap[w.heap.size + 1 + 1]? = some (.cells #[.bool true] 4 (0, 0)) := (set_blk HRB.out 0 _).trans rfl
        have hBl3 : Below w.heap.size w (V2.setCell ⟨w.heap.size + 1 + 1, 0, none⟩ (.bool true)) := (trans2 (trans2 HB1.out HW0.out) HN7.out.bel).trans ((Fr.of_setCell V2 ⟨w.heap.size + 1 + 1, 0, none⟩ (.bool true)).below _ (trans2 (trans2 HB1.out HW0.out) HN7.out.bel).size (fun k e => by rw [show k = w.heap.size + 1 + 1 from e]; omega))
        have hwD : w.heap.size ≤ D := Nat.le_trans (trans2 (trans2 HB1.out HW0.out) HN2.out.bel).size hD
        have hwD2 : w.heap.size ≤ D2 := by omega
        generalize V2.setCell ⟨w.heap.size + 1 + 1, 0, none⟩ (.bool true) = V3 at *
        have hDa4 : (V3.putObj D2 (.deferred none)).heap[D]? = some (.deferred (some [])) := (World.putObj_heap_other hDD).trans hDa3
        have hr1 : w.heap.size + 1 + 1 ≠ D2 := fun e => by rw [e, hDb3] at hR3; cases hR3
        have hr2 : w.heap.size + 1 + 1 ≠ D := fun e => by rw [e, hDa3] at hR3; cases hR3
        have hR5 : ((V3.putObj D2 (.deferred none)).putObj D (.deferred none)).heap[w.heap.size + 1 + 1]? = some (.cells #[.bool true] 4 (0, 0)) := (World.putObj_heap_other hr2).trans ((World.putObj_heap_other hr1).trans hR3)
        have hBl5 : Below w.heap.size w ((V3.putObj D2 (.deferred none)).putObj D (.deferred none)) := by
          have h1 : Below w.heap.size V3 (V3.putObj D2 (.deferred none)) := (Fr.of_grown (grownBy_putObj' V3 D2 (.deferred none))).below _ hBl3.size (fun k e => by cases e; exact hwD2)
          have h2 : Below w.heap.size (V3.putObj D2 (.deferred none)) ((V3.putObj D2 (.deferred none)).putObj D (.deferred none)) := (Fr.of_grown (grownBy_putObj' _ D (.deferred none))).below _ (hBl3.trans h1).size (fun k e => by cases e; exact hwD)
          exact (hBl3.trans h1).trans h2
        refine ⟨by simp, .inl ⟨_, _, rfl, run_takeDeferred hDb3, by simp, .inl ⟨_, _, rfl, run_takeDeferred hDa4, ?_⟩⟩⟩
        exact ⟨_, results_box rfl _ _ (w.heap.size + 1 + 1) true rfl ((cell_blk hR5 0).trans rfl), rfl, hBl5⟩
  · gi_wp2_with fail
    refine ⟨trivial, ?_⟩
    refine (callsIn_wide.2 (ni_feed HN0.out HA0'.out (by simp; omega))).mono ?_
    rintro e w11 ⟨⟨v, rfl⟩, hN, hk⟩
    rw [List.nil_append] at hN
    have HN : Hid (NI W0 W0.heap.size A 0 [(W0.heap.size + 1, .pointer (some ⟨W0.heap.size, 0, none⟩), 47)] w11) := hN
    have hcs := (hN.cell (.head _)).1
    clear hN hk HN0 HA0' hW0
    gi_wp2_with (refine ⟨trivial, ?_⟩; gi_at_call 31; refine (callsIn_wide.2 (bodies_any _ _)).mono ?_; rintro e w' ⟨rfl, rfl⟩)
    obtain ⟨bf, hbf⟩ : ∃ bf : Nat → List Bx, bf = fun m => [(w11.heap.size + 1, .int .i64 m, 3), (w11.heap.size, .pointer (some ⟨W0.heap.size, 0, none⟩), 47), (W0.heap.size + 1, .pointer (some ⟨W0.heap.size, 0, none⟩), 47)] := ⟨_, rfl⟩
    have HBF : Hid (bf = _) := hbf
    have HN2 : Hid (NI W0 W0.heap.size A 0 (bf 0) ((w11.alloc (.cells #[.pointer (some ⟨W0.heap.size, 0, none⟩)] 47)).alloc (.cells #[.int .i64 0] 3))) := by
      have h := (HN.out.alloc (.pointer (some ⟨W0.heap.size, 0, none⟩)) 47 (by decide) (by decide) (by decide)).alloc (.int .i64 0) 3 (by decide) (by decide) (by decide)
      rw [World.size_alloc] at h
      rw [hbf]
      exact h
    have hB2 : W0.heap.size ≤ ((w11.alloc (.cells #[.pointer (some ⟨W0.heap.size, 0, none⟩)] 47)).alloc (.cells #[.int .i64 0] 3)).heap.size := HN2.out.bel.size
    have HLT : Hid (W0.heap.size + 1 < w11.heap.size) := HN.out.lt (.head _)
    clear hcs HN hbf
    generalize ((w11.alloc (.cells #[.pointer (some ⟨W0.heap.size, 0, none⟩)] 47)).alloc (.cells #[.int .i64 0] 3)) = w12 at HN2 hB2 ⊢
    refine wpIn_range_st1 (σ := Nat) (by decide) (gf := 43) (lb := #[.pointer (some ⟨w11.heap.size, 0, none⟩)]) rfl (enters_of Try.func43 (by kernel_rfl) rfl) (by simp)
      (I := LI W0 W0.heap.size (fun m => if m = 0 then A else AB) bf (fun m => m = 0 ∨ 0 < (dec A).1.length) (fun _ => True))
      (ni_seq _ w11.heap.size _ (dec AB).1.length 0 (fun _ _ => False) (fun m => by rw [HBF.out]; simp) (fun _ _ _ h => h))
      (LI.own hB2 (fun _ _ _ _ h _ _ => h)) (fun m x => LY.own hB2 (fun _ _ _ _ h _ _ => h) m x) (fun _ _ _ _ h _ _ => h) (LE.own hB2 (fun _ _ _ _ h _ _ => h)) ⟨HN2.out, .inl rfl, trivial⟩ ?body ?done (fun D c W hD hX => hX.elim)
    case body =>
      simp only [List.setIfInBounds_toArray, List.set_cons_zero, List.set_cons_succ]
      rintro l m x W hl ⟨r, hr⟩ ⟨xa, xn, xc, xs, rfl, hN, hrow, hxs, hg, -⟩
      dsimp only at hxs hg hN
      have HAL : Hid (0 < (dec A).1.length) := by have := HNA.out; show 0 < (dec A).1.length; omega
      have hgs : (dec ABC).1[m]? = some xs := by
        by_cases h0 : m = 0
        · rw [if_pos h0] at hxs
          rw [HABCE.out, HABE.out, List.append_assoc]
          exact dec_more _ _ hxs
        · rw [if_neg h0] at hxs
          rw [HABCE.out]
          exact dec_more _ _ hxs
      obtain ⟨p, hp, hpx⟩ : ∃ p, gs[m]? = some p ∧ p.2 = xs := by
        rw [← HG.out, List.getElem?_map] at hgs
        cases h : gs[m]? with
        | none => rw [h] at hgs; cases hgs
        | some p => rw [h] at hgs; exact ⟨p, rfl, Option.some.inj hgs⟩
      have hmg : m < gs.length := (List.getElem?_eq_some_iff.1 hp).1
      obtain ⟨wg, wa, wc, hla, hcell, hbys⟩ := (HSD0.out.below hN.bel).at hp
      rw [hpx] at hcell hbys
      have hwW : W.cell? ⟨w9.heap.size, 0, none⟩ = some (.slice (some ⟨wg, 0, none⟩) gs.length lc3) := by
        rw [hN.bel.cell (p := ⟨w9.heap.size, 0, none⟩) hwbl, cell_blk HWB.out 0, ← hla]
        rfl
      have hkk := hN.cell (k := w11.heap.size + 1) (v := .int .i64 m) (t := 3) (by rw [HBF.out]; exact .head _)
      obtain ⟨hkW, hkf⟩ := hkk
      have HROW : Hid _ := hrow
      have HBY : Hid (Bys W wa xs) := hbys
      have HN3 : Hid (NI W0 W0.heap.size (if m = 0 then A else AB) (m + 1) (bf m) W) := hN
      have hmi : ¬ ((gs.length : Int) ≤ (m : Int)) := by omega
      have HXS : Hid _ := hxs
      have HLA : Hid (la3 = some ⟨wg, 0, none⟩) := hla
      clear hrow hbys hN hxs hgs hp hpx hla
      gi_wp2_with fail
      refine ⟨trivial, ?_⟩
      refine (calls_round (same_bl HROW.out HBY.out)).mono ?_
      rintro e W1 ⟨rfl, d, hd⟩
      have hb1 : Below W.heap.size W W1 := by rw [hd]; exact below_drewN (Below.refl _ _) d
      have HN4 : Hid (NI W0 W0.heap.size (if m = 0 then A else AB) (m + 1) (bf m) W1) := NI.below HN3.out hb1
      have HK1 : Hid (KeepsOthers W W1) := (Fr.of_below hb1 (fun _ => False)).keeps (fun _ _ e => e.elim)
      have hkk := HN4.out.cell (k := w11.heap.size + 1) (v := .int .i64 m) (t := 3) (by rw [HBF.out]; exact .head _)
      obtain ⟨hkW1, hkf1⟩ := hkk
      have HK2 : Hid (KeepsOthers W (W1.setCell ⟨w11.heap.size + 1, 0, none⟩ (.int .i64 ((m + 1 : Nat) : Int)))) := HK1.out.trans (KeepsOthers.setCell _ _ _)
      have HN5 : Hid (NI W0 W0.heap.size (if m = 0 then A else AB) (m + 1) (bf (m + 1)) (W1.setCell ⟨w11.heap.size + 1, 0, none⟩ (.int .i64 ((m + 1 : Nat) : Int)))) := by
        have h := HN4.out
        rw [HBF.out] at h ⊢
        refine h.set (fun q hq => ?_)
        have := HLT.out
        simp only [List.mem_cons, List.not_mem_nil, or_false] at hq
        rcases hq with rfl | rfl
        · show w11.heap.size ≠ w11.heap.size + 1; omega
        · show W0.heap.size + 1 ≠ w11.heap.size + 1; omega
      clear hd hb1 HN3 HN4 HROW HBY hkW hkf hwW hcell HK1
      rcases Nat.eq_zero_or_pos m with hm0 | hmp
      · subst hm0
        rw [if_pos rfl] at HN5
        have e1 : (((0 : Nat) + 1 : Nat) : Int) = 1 := rfl
        rw [e1] at HN5 HK2
        gi_wp2_with fail
        have e2 : ((0 : Nat) : Int) + 1 = 1 := rfl
        try rw [e2]
        generalize W1.setCell ⟨w11.heap.size + 1, 0, none⟩ (.int .i64 1) = W2 at HN5 HK2 ⊢
        have hcs : W2.cell? ⟨W0.heap.size + 1, 0, none⟩ = some (.pointer (some ⟨W0.heap.size, 0, none⟩)) := (HN5.out.cell (t := 47) (by rw [HBF.out]; exact .tail _ (.tail _ (.head _)))).1
        have hcb : W2.cell? ⟨w.heap.size, 0, none⟩ = some (.slice ab qs.length cb) := (HN5.out.bel.cell (p := ⟨w.heap.size, 0, none⟩) HCBL.out).trans HCB0.out
        refine region_round (S := (fun w' => w'.cell? ⟨W0.heap.size + 1, 0, none⟩ = some (.pointer (some ⟨W0.heap.size, 0, none⟩)) ∧ w'.cell? ⟨w.heap.size, 0, none⟩ = some (.slice ab qs.length cb))) (by kernel_rfl) (by kernel_rfl) (by rintro ⟨a, w, h⟩; exact h) ⟨hcs, hcb⟩ (fun hHeld => ?_)
        refine wpAnyH_take (i := 0) (v := ?va_0) rfl (by kernel_rfl) (by kernel_rfl) (by kernel_rfl) (fun _ _ _ h => h) ?hya_0 hHeld ?ha_0
        case hya_0 => refine Or.inl ⟨by rfl, ?_⟩; intro w hSw; obtain ⟨hh1, hh2⟩ := hSw; go_simp <;> with_reducible rfl
        simp only [List.getElem_toArray, List.getElem_cons_zero, Act.put, List.setIfInBounds_toArray, List.set_cons_zero, List.set_cons_succ]
        refine wpAnyH_take (i := 1) (v := ?va_1) rfl (by kernel_rfl) (by kernel_rfl) (by kernel_rfl) (fun _ _ _ h => h) ?hya_1 hHeld ?ha_1
        case hya_1 => refine Or.inl ⟨by rfl, ?_⟩; intro w hSw; obtain ⟨hh1, hh2⟩ := hSw; go_simp <;> with_reducible rfl
        try simp only [List.getElem_toArray, List.getElem_cons_succ, List.getElem_cons_zero, Act.put, List.setIfInBounds_toArray, List.set_cons_zero, List.set_cons_succ]
        refine wpAnyH_ready (rs := [2]) (by kernel_rfl) (by simp) ?_
        refine AllReadyH.cons rfl (fun K hK => ?_) AllReadyH.nil
        go_simp
        refine (HJQ.out _ (HQ.out.below ((trans2 (trans2 HB1.out HW0.out) HN5.out.bel).drew))).mono ?_
        rintro e W3 ⟨a8, c8, rfl, hbl, hb3'⟩
        have hb3 := undrew hb3'
        have HN6 : Hid (NI W0 W0.heap.size A 1 (bf 1) W3) := NI.below HN5.out hb3
        have HK3 : Hid (KeepsOthers W W3) := HK2.out.trans (keeps_below hb3)
        have HBL : Hid (Bl W3 a8 c8 B) := hbl
        have hcs3 : W3.cell? ⟨W0.heap.size + 1, 0, none⟩ = some (.pointer (some ⟨W0.heap.size, 0, none⟩)) := (HN6.out.cell (t := 47) (by rw [HBF.out]; exact .tail _ (.tail _ (.head _)))).1
        have hcb3 : W3.cell? ⟨w.heap.size, 0, none⟩ = some (.slice ab qs.length cb) := (HN6.out.bel.cell (p := ⟨w.heap.size, 0, none⟩) HCBL.out).trans HCB0.out
        refine hK.out _ _ ⟨hcs3, hcb3⟩ (fun hHeld => ?_)
        clear hK K hbl hb3 hb3' HN5 HK2 hcs hcb
        try simp only [List.getElem_toArray, List.getElem_cons_succ, List.getElem_cons_zero, Act.put, List.setIfInBounds_toArray, List.set_cons_zero, List.set_cons_succ]
        refine wpAnyH_ready (rs := [3]) (by kernel_rfl) (by simp) ?_
        refine AllReadyH.cons rfl (fun K hK => ?_) AllReadyH.nil
        go_simp
        refine (ni_feed HN6.out HBL.out (by rw [List.length_append]; omega)).mono ?_
        rintro e W4 ⟨⟨v4, rfl⟩, hN7, hk7⟩
        rw [← HABE.out] at hN7
        have HN7 : Hid (NI W0 W0.heap.size AB 1 (bf 1) W4) := hN7
        have HK4 : Hid (KeepsOthers W W4) := HK3.out.trans hk7
        have hcs4 : W4.cell? ⟨W0.heap.size + 1, 0, none⟩ = some (.pointer (some ⟨W0.heap.size, 0, none⟩)) := (HN7.out.cell (t := 47) (by rw [HBF.out]; exact .tail _ (.tail _ (.head _)))).1
        have hcb4 : W4.cell? ⟨w.heap.size, 0, none⟩ = some (.slice ab qs.length cb) := (HN7.out.bel.cell (p := ⟨w.heap.size, 0, none⟩) HCBL.out).trans HCB0.out
        refine hK.out _ _ ⟨hcs4, hcb4⟩ (fun hHeld => ?_)
        clear hK K hHeld hN7 hk7 HN6 HK3 HBL hcs3 hcb3 hcb4
        refine wpAnyH_done (by kernel_rfl) ?_ _
        have hcs5 : (W4.alloc (.cells #[.int .i64 0] 3)).cell? ⟨W0.heap.size + 1, 0, none⟩ = some (.pointer (some ⟨W0.heap.size, 0, none⟩)) := ((HN7.out.below ((Below.refl _ _).alloc (Nat.le_refl _) _)).cell (t := 47) (by rw [HBF.out]; exact .tail _ (.tail _ (.head _)))).1
        gi_wp2_with (refine ⟨trivial, ?_⟩; gi_at_call 31; refine (calls_round (bodies_any _ _)).mono ?_; rintro e w' ⟨rfl, rfl⟩)
        obtain ⟨cf, hcf⟩ : ∃ cf : Nat → List Bx, cf = fun m => [(w11.heap.size + 1, .int .i64 m, 3), (W4.heap.size, .int .i64 ((m : Int) - 1), 3), (W4.heap.size + 1, .pointer (some ⟨W0.heap.size, 0, none⟩), 47), (w11.heap.size, .pointer (some ⟨W0.heap.size, 0, none⟩), 47), (W0.heap.size + 1, .pointer (some ⟨W0.heap.size, 0, none⟩), 47)] := ⟨_, rfl⟩
        have HCF : Hid (cf = _) := hcf
        have HN8 : Hid (NI W0 W0.heap.size AB 1 (cf 1) ((W4.alloc (.cells #[.int .i64 0] 3)).alloc (.cells #[.pointer (some ⟨W0.heap.size, 0, none⟩)] 47))) := by
          have h := (HN7.out.alloc (.int .i64 0) 3 (by decide) (by decide) (by decide)).alloc (.pointer (some ⟨W0.heap.size, 0, none⟩)) 47 (by decide) (by decide) (by decide)
          rw [World.size_alloc, HBF.out] at h
          rw [hcf]
          refine h.perm (fun q hq => ?_)
          simp only [List.mem_cons, List.not_mem_nil, or_false] at hq ⊢
          rcases hq with rfl | rfl | rfl | rfl | rfl
          · exact .inr (.inr (.inl rfl))
          · exact .inr (.inl rfl)
          · exact .inl rfl
          · exact .inr (.inr (.inr (.inl rfl)))
          · exact .inr (.inr (.inr (.inr rfl)))
        have HK5 : Hid (KeepsOthers W ((W4.alloc (.cells #[.int .i64 0] 3)).alloc (.cells #[.pointer (some ⟨W0.heap.size, 0, none⟩)] 47))) := (HK4.out.trans (KeepsOthers.alloc _ _)).trans (KeepsOthers.alloc _ _)
        have HKB : Hid (w11.heap.size + 1 < W4.heap.size) := HN7.out.lt (q := (w11.heap.size + 1, .int .i64 ((1 : Nat) : Int), 3)) (by rw [HBF.out]; exact .head _)
        clear hcf hcs4 hcs5 HN7 HK4
        generalize ((W4.alloc (.cells #[.int .i64 0] 3)).alloc (.cells #[.pointer (some ⟨W0.heap.size, 0, none⟩)] 47)) = W5 at HN8 HK5 ⊢
        have hB5 : W0.heap.size ≤ W5.heap.size := HN8.out.bel.size
        have fin : ∀ (k : Nat) (V : World) (a : Act), 1 ≤ k → NI W0 W0.heap.size AB k (cf k) V → KeepsFrom w12.heap.size W V → stPost w12.heap.size (LI W0 W0.heap.size (fun m => if m = 0 then A else AB) bf (fun m => m = 0 ∨ 0 < (dec A).1.length) (fun _ => True)) (LN (dec AB).1.length) (fun _ _ => False) 0 (.slice xa xn xc) W .normal a V := fun k V a hk1 hNk hKk => by
          refine ⟨hKk, k, ⟨hk1, hNk.le⟩, ?_, .inr HAL.out, trivial⟩
          show NI W0 W0.heap.size (if k = 0 then A else AB) k (bf k) V
          rw [if_neg (by omega)]
          refine hNk.perm (fun q hq => ?_)
          rw [HCF.out]
          rw [HBF.out] at hq
          simp only [List.mem_cons, List.not_mem_nil, or_false] at hq ⊢
          rcases hq with rfl | rfl | rfl
          · exact .inl rfl
          · exact .inr (.inr (.inr (.inl rfl)))
          · exact .inr (.inr (.inr (.inr rfl)))
        have FIN : Hid _ := fin
        clear fin
        refine wpIn_range_stN1 (σ := Nat) (l₀ := l) (HK5.out.same _ _ hr rfl) (by decide) (gf := 43) (lb := #[.pointer (some ⟨W4.heap.size + 1, 0, none⟩)]) rfl (enters_of Try.func43 (by kernel_rfl) rfl) (by simp)
          (I := LI W0 W0.heap.size (fun _ => AB) cf (fun m => 1 ≤ m) (fun V => KeepsFrom w12.heap.size W V))
          (ni_seq _ (W4.heap.size + 1) _ (dec AB).1.length 1 (fun c V => c = .exit 2 ∧ ∃ m, 1 ≤ m ∧ NI W0 W0.heap.size AB m (cf m) V ∧ KeepsFrom w12.heap.size W V) (fun m => by rw [HCF.out]; simp) (fun _ _ hk h => h.trans (hk.from _)))
          (LI.own hB5 (ownFrom_keepsFrom HK5.out.size)) (fun m x => LY.own hB5 (ownFrom_keepsFrom HK5.out.size) m x)
          (fun c A' C' row hs hg hr => by obtain ⟨hc, m, h1, h2, h3⟩ := hs; exact ⟨hc, m, h1, h2.grown hB5 hg hr, ownFrom_keepsFrom (β := Unit) HK5.out.size () A' C' row h3 hg hr⟩)
          (LE.own hB5 (ownFrom_keepsFrom HK5.out.size)) ⟨HN8.out, Nat.le_refl _, HK5.out.from _⟩ ?ibody ?idone ?istop
        case ibody =>
          simp only [List.setIfInBounds_toArray, List.set_cons_zero, List.set_cons_succ]
          clear HK5 HN8
          rintro l2 m x V hl2 hrec2 ⟨ya, yn, yc, zs, rfl, hN, hrow, hxs, hg, hZ⟩
          dsimp only at hxs hg hN hZ
          have hgs : (dec ABC).1[m]? = some zs := by
            rw [HABCE.out]
            exact dec_more _ _ hxs
          obtain ⟨p, hp, hpx⟩ : ∃ p, gs[m]? = some p ∧ p.2 = zs := by
            rw [← HG.out, List.getElem?_map] at hgs
            cases h : gs[m]? with
            | none => rw [h] at hgs; cases hgs
            | some p => rw [h] at hgs; exact ⟨p, rfl, Option.some.inj hgs⟩
          have hmg : m < gs.length := (List.getElem?_eq_some_iff.1 hp).1
          obtain ⟨vg, va, vc, hla, hcell, hbys⟩ := (HSD0.out.below (NI.bel hN)).at hp
          rw [hpx] at hcell hbys
          have hwV : V.cell? ⟨w9.heap.size, 0, none⟩ = some (.slice (some ⟨vg, 0, none⟩) gs.length lc3) := by
            rw [(NI.bel hN).cell (p := ⟨w9.heap.size, 0, none⟩) hwbl, cell_blk HWB.out 0, ← hla]
            rfl
          have hkV : V.cell? ⟨w11.heap.size + 1, 0, none⟩ = some (.int .i64 m) := (NI.cell hN (t := 3) (by rw [HCF.out]; exact .head _)).1
          have HROW : Hid (V.ownsRow 0 5 1 (.slice ya yn yc) zs.length (bv zs)) := hrow
          have HBY : Hid (Bys V va zs) := hbys
          have HN3 : Hid (NI W0 W0.heap.size AB (m + 1) (cf m) V) := hN
          have HZ : Hid (KeepsFrom w12.heap.size W V) := hZ
          have hmi : ¬ ((gs.length : Int) ≤ (m : Int)) := by omega
          have HG1 : Hid (1 ≤ m) := hg
          clear hrow hbys hN hxs hgs hp hpx hla hZ hg
          gi_wp2_with fail
          refine ⟨trivial, ?_⟩
          refine (calls_round (same_bl HROW.out HBY.out)).mono ?_
          rintro e V1 ⟨rfl, d, hd⟩
          have hb1 : Below V.heap.size V V1 := by rw [hd]; exact below_drewN (Below.refl _ _) d
          have HN4 : Hid (NI W0 W0.heap.size AB (m + 1) (cf m) V1) := NI.below HN3.out hb1
          have HK1 : Hid (KeepsOthers V V1) := keeps_below hb1
          obtain ⟨hkV1, hkf1⟩ := HN4.out.cell (k := w11.heap.size + 1) (v := .int .i64 m) (t := 3) (by rw [HCF.out]; exact .head _)
          have hne : ∀ q ∈ (cf m).tail, q.1 ≠ w11.heap.size + 1 := by
            have := HLT.out
            have := HKB.out
            intro q hq
            rw [HCF.out] at hq
            simp only [List.tail_cons, List.mem_cons, List.not_mem_nil, or_false] at hq
            rcases hq with rfl | rfl | rfl | rfl
            · show W4.heap.size ≠ _; omega
            · show W4.heap.size + 1 ≠ _; omega
            · show w11.heap.size ≠ _; omega
            · show W0.heap.size + 1 ≠ _; omega
          have e1 : ((m + 1 : Nat) : Int) = (m : Int) + 1 := by omega
          have HN5 : Hid (NI W0 W0.heap.size AB (m + 1) [(W4.heap.size, .int .i64 ((m : Int) - 1), 3), (w11.heap.size + 1, .int .i64 ((m : Int) + 1), 3), (W4.heap.size + 1, .pointer (some ⟨W0.heap.size, 0, none⟩), 47), (w11.heap.size, .pointer (some ⟨W0.heap.size, 0, none⟩), 47), (W0.heap.size + 1, .pointer (some ⟨W0.heap.size, 0, none⟩), 47)] (V1.setCell ⟨w11.heap.size + 1, 0, none⟩ (.int .i64 ((m : Int) + 1)))) := by
            have h := HN4.out
            rw [HCF.out] at h hne
            refine NI.perm (h.set (v := .int .i64 ((m : Int) + 1)) hne) (fun q hq => ?_)
            simp only [List.mem_cons, List.not_mem_nil, or_false] at hq ⊢
            rcases hq with rfl | rfl | rfl | rfl | rfl
            · exact .inr (.inl rfl)
            · exact .inl rfl
            · exact .inr (.inr (.inl rfl))
            · exact .inr (.inr (.inr (.inl rfl)))
            · exact .inr (.inr (.inr (.inr rfl)))
          obtain ⟨hjV, hjf⟩ := HN4.out.cell (k := W4.heap.size) (v := .int .i64 ((m : Int) - 1)) (t := 3) (by rw [HCF.out]; exact .tail _ (.head _))
          have hnn := HKB.out
          have hnl := HCIL.out
          have hnw := HLT.out
          have hn1 : w11.heap.size + 1 ≠ W4.heap.size := by omega
          have hn2 : W4.heap.size ≠ w11.heap.size + 1 := by omega
          have hn3 : w.heap.size ≠ w11.heap.size := by omega
          have hn4 : w11.heap.size ≠ w.heap.size := by omega
          have hn5 : w.heap.size + 1 ≠ W4.heap.size := by omega
          have hn6 : W4.heap.size ≠ w.heap.size + 1 := by omega
          have hinV : V1.cell? ⟨w.heap.size + 1, 0, none⟩ = some (.int .i64 inner) := (HN4.out.bel.cell (p := ⟨w.heap.size + 1, 0, none⟩) HCIL.out).trans HCI0.out
          clear hnn hnl hnw
          have HN6 : Hid (NI W0 W0.heap.size AB (m + 1) (cf (m + 1)) ((V1.setCell ⟨w11.heap.size + 1, 0, none⟩ (.int .i64 ((m : Int) + 1))).setCell ⟨W4.heap.size, 0, none⟩ (.int .i64 (m : Int)))) := by
            have hl1 := HLT.out
            have hl2 := HKB.out
            have hs : NI W0 W0.heap.size AB (m + 1) _ _ := HN5.out.set (v := .int .i64 (m : Int)) (fun q hq => by
              simp only [List.mem_cons, List.not_mem_nil, or_false] at hq
              rcases hq with rfl | rfl | rfl | rfl
              · show w11.heap.size + 1 ≠ _; omega
              · show W4.heap.size + 1 ≠ _; omega
              · show w11.heap.size ≠ _; omega
              · show W0.heap.size + 1 ≠ _; omega)
            refine NI.perm hs (fun q hq => ?_)
            rw [HCF.out] at hq
            simp only [e1, show (m : Int) + 1 - 1 = m by omega, List.mem_cons, List.not_mem_nil, or_false] at hq ⊢
            rcases hq with rfl | rfl | rfl | rfl | rfl
            · exact .inr (.inl rfl)
            · exact .inl rfl
            · exact .inr (.inr (.inl rfl))
            · exact .inr (.inr (.inr (.inl rfl)))
            · exact .inr (.inr (.inr (.inr rfl)))
          have HK6 : Hid (KeepsOthers V ((V1.setCell ⟨w11.heap.size + 1, 0, none⟩ (.int .i64 ((m : Int) + 1))).setCell ⟨W4.heap.size, 0, none⟩ (.int .i64 (m : Int)))) := (HK1.out.trans (KeepsOthers.setCell _ _ _)).trans (KeepsOthers.setCell _ _ _)
          have HE1 : Hid (((m + 1 : Nat) : Int) = (m : Int) + 1) := e1
          clear hd hb1 HN3 HN4 HN5 HROW HBY hkV hwV hcell HK1 hne e1
          have HWR : Hid (wrap64 ((m : Int) + 1) = (m : Int) + 1 ∧ wrap64 (m : Int) = (m : Int)) := by
            have := HN6.out.le
            have := (dec_count AB).1
            exact ⟨by unfold wrap64; omega, by unfold wrap64; omega⟩
          gi_wp2_with fail
          all_goals try rw [HWR.out.1, HWR.out.2]
          · exact ⟨HK6.out.from _, rfl, m + 1, by omega, HN6.out, HZ.out.trans (HK6.out.from _)⟩
          · exact ⟨HK6.out.from _, m + 1, ⟨by omega, HN6.out.le⟩, HN6.out, by show 1 ≤ m + 1; omega, HZ.out.trans (HK6.out.from _)⟩
        case idone =>
          rintro V ⟨k, hk, hNk, hgk, hKk⟩
          gi_wp2_with fail
          exact FIN.out k V _ hgk hNk hKk
        case istop =>
          rintro c V ⟨rfl, k, hgk, hNk, hKk⟩
          gi_wp2_with fail
          exact FIN.out k V _ hgk hNk hKk
      · rw [if_neg (by omega)] at HN5
        have hm1 : (m : Int) + 1 > 1 := by omega
        have hml : (m : Int) + 1 ≤ 9223372036854775807 := by have := HN5.out.le; have := (dec_count AB).1; omega
        have e1 : ((m + 1 : Nat) : Int) = (m : Int) + 1 := by omega
        rw [e1] at HN5 HK2
        gi_wp2_with fail
        exact ⟨HK2.out.from _, m + 1, ⟨by omega, HN5.out.le⟩, (by show NI W0 W0.heap.size (if m + 1 = 0 then A else AB) _ _ _; rw [if_neg (by omega)]; exact HN5.out), .inr HAL.out, trivial⟩
    case done =>
      rintro D W hD ⟨m, hm, hN, hg, -⟩ hDf
      dsimp only at hm hg hN
      have hAl : 0 < (dec A).1.length := by have := HNA.out; omega
      have hmp : m ≠ 0 := fun h => by subst h; rw [if_pos rfl] at hm; omega
      rw [if_neg hmp] at hm hN
      rw [← HNAB.out] at hm
      rw [hm] at hN
      have HN3 : Hid (NI W0 W0.heap.size AB NAB (bf NAB) W) := hN
      have HDF : Hid (W.heap[D]? = some (.deferred (some []))) := hDf
      have hkW : W.cell? ⟨w11.heap.size + 1, 0, none⟩ = some (.int .i64 NAB) := (HN3.out.cell (t := 3) (by rw [HBF.out]; exact .head _)).1
      clear hN hg hDf hAl hmp hm
      gi_wp2_with fail
      refine region_held (S := (fun w' => w'.cell? ⟨W0.heap.size + 1, 0, none⟩ = some (.pointer (some ⟨W0.heap.size, 0, none⟩)))) (by kernel_rfl) (by kernel_rfl) ((HN3.out.cell (t := 47) (by rw [HBF.out]; exact .tail _ (.tail _ (.head _)))).1) (fun hHeld => ?_)
      refine wpAnyH_take (i := 0) (v := ?vr_0) rfl (by kernel_rfl) (by kernel_rfl) (by kernel_rfl) (fun _ _ _ h => h) ?hyr_0 hHeld ?hr_0
      case hyr_0 => refine Or.inl ⟨by rfl, ?_⟩; intro w hSw; have hh1 := hSw; go_simp <;> with_reducible rfl
      simp only [List.getElem_toArray, List.getElem_cons_zero, Act.put, List.setIfInBounds_toArray, List.set_cons_zero, List.set_cons_succ]
      refine wpAnyH_take (i := 1) (v := ?vr_1) rfl (by kernel_rfl) (by kernel_rfl) (by kernel_rfl) (fun _ _ _ h => h) ?hyr_1 hHeld ?hr_1
      case hyr_1 => refine Or.inl ⟨by rfl, ?_⟩; intro w hSw; have hh1 := hSw; go_simp <;> with_reducible rfl
      simp only [List.getElem_toArray, List.getElem_cons_succ, List.getElem_cons_zero, Act.put, List.setIfInBounds_toArray, List.set_cons_zero, List.set_cons_succ]
      refine wpAnyH_ready (rs := [2]) (by kernel_rfl) (by simp) ?_
      refine AllReadyH.cons rfl (fun K hK => ?_) AllReadyH.nil
      go_simp
      refine (HJR.out _ (HR.out.below ((trans2 (trans2 HB1.out HW0.out) HN3.out.bel).drew))).mono ?_
      rintro e Wr1 ⟨ar, cr, rfl, hbl, hb'⟩
      have hb := undrew hb'
      have HNr1 : Hid (NI W0 W0.heap.size AB NAB (bf NAB) Wr1) := NI.below HN3.out hb
      have HDr1 : Hid (Wr1.heap[D]? = some (.deferred (some []))) := keeps_deferred _ _ (keeps_below hb) HDF.out
      have HBr1 : Hid (Bl Wr1 ar cr C) := hbl
      refine hK.out _ _ ((HNr1.out.cell (t := 47) (by rw [HBF.out]; exact .tail _ (.tail _ (.head _)))).1) (fun hHeld => ?_)
      clear hK K hbl hb hb' hHeld
      try simp only [List.getElem_toArray, List.getElem_cons_succ, List.getElem_cons_zero, Act.put, List.setIfInBounds_toArray, List.set_cons_zero, List.set_cons_succ]
      refine wpAnyH_ready (rs := [3]) (by kernel_rfl) (by simp) ?_
      refine AllReadyH.cons rfl (fun K hK => ?_) AllReadyH.nil
      go_simp
      refine (ni_feed HNr1.out HBr1.out (by rw [List.length_append]; omega)).mono ?_
      rintro e Wr2 ⟨⟨vr, rfl⟩, hNx, hkx⟩
      rw [← HABCE.out] at hNx
      have HNr : Hid (NI W0 W0.heap.size ABC NAB (bf NAB) Wr2) := hNx
      have HDr : Hid (Wr2.heap[D]? = some (.deferred (some []))) := keeps_deferred _ _ hkx HDr1.out
      refine hK.out _ _ ((HNr.out.cell (t := 47) (by rw [HBF.out]; exact .tail _ (.tail _ (.head _)))).1) (fun hHeld => ?_)
      clear hK K hHeld hNx hkx HNr1 HDr1 HBr1
      refine wpAnyH_done (by kernel_rfl) (NoOut.normal ?_) _
      gi_wp2_with fail
      have hBr : W0.heap.size ≤ Wr2.heap.size := HNr.out.bel.size
      have hDl : D < Wr2.heap.size := (Array.getElem?_eq_some_iff.1 HDr.out).1
      refine wpIn_range_st1 (σ := Nat) (by decide) (gf := 43) (lb := #[.pointer (some ⟨w11.heap.size, 0, none⟩)]) rfl (enters_of Try.func43 (by kernel_rfl) rfl) (by simp)
        (I := LI W0 W0.heap.size (fun _ => ABC) bf (fun _ => True) (fun V => V.heap[D]? = some (.deferred (some []))))
        (ni_seq _ w11.heap.size _ (dec ABC).1.length NAB (fun _ _ => False) (fun m => by rw [HBF.out]; simp) keeps_deferred)
        (LI.own hBr (own_deferred hDl)) (fun m x => LY.own hBr (own_deferred hDl) m x) (fun _ _ _ _ h _ _ => h) (LE.own hBr (own_deferred hDl)) ⟨HNr.out, trivial, HDr.out⟩ ?bodyr ?doner (fun D c W hD hX => hX.elim)
      case bodyr =>
        simp only [List.setIfInBounds_toArray, List.set_cons_zero, List.set_cons_succ]
        rintro l m x V hl hrec2 ⟨ya, yn, yc, zs, rfl, hN, hrow, hxs, -, hZ⟩
        dsimp only at hxs hN hZ
        obtain ⟨p, hp, hpx⟩ : ∃ p, gs[m]? = some p ∧ p.2 = zs := by
          rw [← HG.out, List.getElem?_map] at hxs
          cases h : gs[m]? with
          | none => rw [h] at hxs; cases hxs
          | some p => rw [h] at hxs; exact ⟨p, rfl, Option.some.inj hxs⟩
        have hmg : m < gs.length := (List.getElem?_eq_some_iff.1 hp).1
        obtain ⟨vg, va, vc, hla, hcell, hbys⟩ := (HSD0.out.below (NI.bel hN)).at hp
        rw [hpx] at hcell hbys
        have hwV : V.cell? ⟨w9.heap.size, 0, none⟩ = some (.slice (some ⟨vg, 0, none⟩) gs.length lc3) := by
          rw [(NI.bel hN).cell (p := ⟨w9.heap.size, 0, none⟩) hwbl, cell_blk HWB.out 0, ← hla]
          rfl
        have hkV : V.cell? ⟨w11.heap.size + 1, 0, none⟩ = some (.int .i64 m) := (NI.cell hN (t := 3) (by rw [HBF.out]; exact .head _)).1
        have HROW : Hid (V.ownsRow 0 5 1 (.slice ya yn yc) zs.length (bv zs)) := hrow
        have HBY : Hid (Bys V va zs) := hbys
        have HN3 : Hid (NI W0 W0.heap.size ABC (m + 1) (bf m) V) := hN
        have HZ : Hid (V.heap[D]? = some (.deferred (some []))) := hZ
        have hmi : ¬ ((gs.length : Int) ≤ (m : Int)) := by omega
        clear hrow hbys hN hxs hp hpx hla hZ
        gi_wp2_with fail
        refine ⟨trivial, ?_⟩
        refine (calls_round (same_bl HROW.out HBY.out)).mono ?_
        rintro e V1 ⟨rfl, d, hd⟩
        have hb1 : Below V.heap.size V V1 := by rw [hd]; exact below_drewN (Below.refl _ _) d
        have HN4 : Hid (NI W0 W0.heap.size ABC (m + 1) (bf m) V1) := NI.below HN3.out hb1
        obtain ⟨hkV1, hkf1⟩ := HN4.out.cell (k := w11.heap.size + 1) (v := .int .i64 m) (t := 3) (by rw [HBF.out]; exact .head _)
        have HK2 : Hid (KeepsOthers V (V1.setCell ⟨w11.heap.size + 1, 0, none⟩ (.int .i64 ((m : Int) + 1)))) := (keeps_below hb1).trans (KeepsOthers.setCell _ _ _)
        have e1 : ((m + 1 : Nat) : Int) = (m : Int) + 1 := by omega
        have HN5 : Hid (NI W0 W0.heap.size ABC (m + 1) (bf (m + 1)) (V1.setCell ⟨w11.heap.size + 1, 0, none⟩ (.int .i64 ((m : Int) + 1)))) := by
          have h := HN4.out
          rw [HBF.out] at h ⊢
          dsimp only at h ⊢
          rw [e1]
          refine h.set (fun q hq => ?_)
          have := HLT.out
          simp only [List.mem_cons, List.not_mem_nil, or_false] at hq
          rcases hq with rfl | rfl
          · show w11.heap.size ≠ w11.heap.size + 1; omega
          · show W0.heap.size + 1 ≠ w11.heap.size + 1; omega
        have HWR : Hid (wrap64 ((m : Int) + 1) = (m : Int) + 1) := by
          have := HN5.out.le
          have := (dec_count ABC).1
          show wrap64 ((m : Int) + 1) = (m : Int) + 1
          unfold wrap64
          omega
        clear hd hb1 HN3 HN4 HROW HBY hkV hwV hcell e1
        gi_wp2_with fail
        try rw [HWR.out]
        exact ⟨HK2.out.from _, m + 1, ⟨by omega, HN5.out.le⟩, HN5.out, trivial, keeps_deferred _ _ HK2.out HZ.out⟩
      case doner =>
        rintro D2 V hD2 ⟨k, hk, hN, -, hZ⟩ hDf2
        dsimp only at hk hN hZ
        have hkg : k = gs.length := by
          rw [hk, ← HG.out, List.length_map]
        rw [hkg] at hN
        have HN6 : Hid (NI W0 W0.heap.size ABC gs.length (bf gs.length) V) := hN
        have hkV : V.cell? ⟨w11.heap.size + 1, 0, none⟩ = some (.int .i64 gs.length) := (HN6.out.cell (t := 3) (by rw [HBF.out]; exact .head _)).1
        have HD1 : Hid (V.heap[D]? = some (.deferred (some []))) := hZ
        have HD2 : Hid (V.heap[D2]? = some (.deferred (some []))) := hDf2
        clear hN hk hkg hZ hDf2
        have hc1 := conv_at V #[.int .u8 97] 1 1 V.heap.size rfl
        gi_wp2_with fail
        clear hc1
        refine ⟨trivial, ?_⟩
        refine (callsIn_wide.2 (one_frame V)).mono ?_
        rintro e V2 ⟨fa, fc, rfl, hb2⟩
        have HN7 : Hid (NI W0 W0.heap.size ABC gs.length (bf gs.length) V2) := NI.below HN6.out hb2
        have hkV2 : V2.cell? ⟨w11.heap.size + 1, 0, none⟩ = some (.int .i64 gs.length) := (HN7.out.cell (t := 3) (by rw [HBF.out]; exact .head _)).1
        have hwV2 : V2.cell? ⟨w9.heap.size, 0, none⟩ = some (.slice la3 gs.length lc3) := by
          rw [HN7.out.bel.cell (p := ⟨w9.heap.size, 0, none⟩) hwbl, cell_blk HWB.out 0]
          rfl
        have hsV2 : V2.cell? ⟨W0.heap.size + 1, 0, none⟩ = some (.pointer (some ⟨W0.heap.size, 0, none⟩)) := (HN7.out.cell (t := 47) (by rw [HBF.out]; exact .tail _ (.tail _ (.head _)))).1
        have HSK : Hid (V2.cell? ⟨W0.heap.size, 2, none⟩ = some (.int .i64 ((dec ABC).2.1 : Nat))) := HN7.out.skipped
        have HRB : Hid (V2.heap[w.heap.size + 1 + 1]? = some (.cells #[.bool false] 4 (0, 0))) := (HN7.out.bel.block _ (Nat.lt_of_lt_of_le (lt_of_blk HX.out.2.2) HW0.out.size)).trans ((HW0.out.block _ (lt_of_blk HX.out.2.2)).trans HX.out.2.2)
        have hrV2 : V2.cell? ⟨w.heap.size + 1 + 1, 0, none⟩ = some (.bool false) := (cell_blk HRB.out 0).trans rfl
        have hrf2 : V2.frozen? ⟨w.heap.size + 1 + 1, 0, none⟩ = false := frozen_blk HRB.out 0
        have HDa : Hid (V2.heap[D]? = some (.deferred (some []))) := keeps_deferred _ _ (keeps_below hb2) HD1.out
        have HDb : Hid (V2.heap[D2]? = some (.deferred (some []))) := keeps_deferred _ _ (keeps_below hb2) HD2.out
        clear hb2 HN6 HD1 HD2 hkV
        gi_wp2_with fail
        refine ⟨trivial, ?_⟩
        refine (callsIn_wide.2 (skipped_st _ _ _ HSK.out)).mono ?_
        rintro e V2 ⟨rfl, rfl⟩
        gi_wp2_with fail
        clear hkV2 hwV2 hsV2 hrV2 hrf2
        have hDD : D ≠ D2 := by omega
        have hDb3 : (V2.setCell ⟨w.heap.size + 1 + 1, 0, none⟩ (.bool true)).heap[D2]? = some (.deferred (some [])) := keeps_deferred _ _ (KeepsOthers.setCell _ _ _) HDb.out
        have hDa3 : (V2.setCell ⟨w.heap.size + 1 + 1, 0, none⟩ (.bool true)).heap[D]? = some (.deferred (some [])) := keeps_deferred _ _ (KeepsOthers.setCell _ _ _) HDa.out
        have hR3 : (V2.setCell ⟨w.heap.size + 1 + 1, 0, none⟩ (.bool true)).heap[w.heap.size + 1 + 1]? = some (.cells #[.bool true] 4 (0, 0)) := (set_blk HRB.out 0 _).trans rfl
        have hBl3 : Below w.heap.size w (V2.setCell ⟨w.heap.size + 1 + 1, 0, none⟩ (.bool true)) := (trans2 (trans2 HB1.out HW0.out) HN7.out.bel).trans ((Fr.of_setCell V2 ⟨w.heap.size + 1 + 1, 0, none⟩ (.bool true)).below _ (trans2 (trans2 HB1.out HW0.out) HN7.out.bel).size (fun k e => by rw [show k = w.heap.size + 1 + 1 from e]; omega))
        have hwD : w.heap.size ≤ D := Nat.le_trans (trans2 (trans2 HB1.out HW0.out) HN2.out.bel).size hD
        have hwD2 : w.heap.size ≤ D2 := by omega
        generalize V2.setCell ⟨w.heap.size + 1 + 1, 0, none⟩ (.bool true) = V3 at *
        have hDa4 : (V3.putObj D2 (.deferred none)).heap[D]? = some (.deferred (some [])) := (World.putObj_heap_other hDD).trans hDa3
        have hr1 : w.heap.size + 1 + 1 ≠ D2 := fun e => by rw [e, hDb3] at hR3; cases hR3
        have hr2 : w.heap.size + 1 + 1 ≠ D := fun e => by rw [e, hDa3] at hR3; cases hR3
        have hR5 : ((V3.putObj D2 (.deferred none)).putObj D (.deferred none)).heap[w.heap.size + 1 + 1]? = some (.cells #[.bool true] 4 (0, 0)) := (World.putObj_heap_other hr2).trans ((World.putObj_heap_other hr1).trans hR3)
        have hBl5 : Below w.heap.size w ((V3.putObj D2 (.deferred none)).putObj D (.deferred none)) := by
          have h1 : Below w.heap.size V3 (V3.putObj D2 (.deferred none)) := (Fr.of_grown (grownBy_putObj' V3 D2 (.deferred none))).below _ hBl3.size (fun k e => by cases e; exact hwD2)
          have h2 : Below w.heap.size (V3.putObj D2 (.deferred none)) ((V3.putObj D2 (.deferred none)).putObj D (.deferred none)) := (Fr.of_grown (grownBy_putObj' _ D (.deferred none))).below _ (hBl3.trans h1).size (fun k e => by cases e; exact hwD)
          exact (hBl3.trans h1).trans h2
        refine ⟨by simp, .inl ⟨_, _, rfl, run_takeDeferred hDb3, by simp, .inl ⟨_, _, rfl, run_takeDeferred hDa4, ?_⟩⟩⟩
        exact ⟨_, results_box rfl _ _ (w.heap.size + 1 + 1) true rfl ((cell_blk hR5 0).trans rfl), rfl, hBl5⟩
end Go.Proofs.Ytdjibjmhjofedab
