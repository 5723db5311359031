import Derived.Test.YtponpkfdkdnaeaaGreatDoorDBase
import Derived.Shelf.SlicesQ.Reverse
import Derived.Test.YtponpkfdkdnaeaaGreatDoorCGood
import Derived.Test.YtponpkfdkdnaeaaGreatDoorDPart
namespace Go.Proofs
open Go.Shelf
def Tryz.revC_ren : Go.Shelf.Ren := ⟨fun | 35 => 33 | n => n, fun | 0 => 0 | 3 => 3 | 4 => 4 | 22 => 42 | 23 => 50 | n => n, fun | n => n⟩
theorem Tryz.revC : Go.Proofs.SlLaysE0.n35 Tryz.prog Tryz.revC_ren := {
  mixed := by kernel_rfl
  f35 := ⟨Tryz.f33.name, by decide, Tryz.func33.trans (congrArg some (by kernel_rfl))⟩
  t0 := Tryz.underlying0
  a0 := Tryz.isAgg0
  z0 := Tryz.sizeOf0
  v0 := Tryz.zeroValue0
  t3 := Tryz.underlying3
  a3 := Tryz.isAgg3
  z3 := Tryz.sizeOf3
  v3 := Tryz.zeroValue3
  t4 := Tryz.underlying4
  a4 := Tryz.isAgg4
  z4 := Tryz.sizeOf4
  v4 := Tryz.zeroValue4
  t22 := Tryz.underlying42
  a22 := Tryz.isAgg42
  z22 := Tryz.sizeOf42
  v22 := Tryz.zeroValue42 }
end Go.Proofs
namespace Go.Proofs.YtponpkfdkdnaeaaGreatDoor
open Go.RowKit Go.Sort
set_option linter.unusedVariables false
set_option linter.unusedSimpArgs false

abbrev TupC : Type := Int × ByteArray × ByteArray × Int
def tupC (c : ChT) : TupC := (c.k, c.p, c.d, c.v)
def encC (t : TupC) : List Value := [.int .i64 t.1, .string t.2.1, .string t.2.2.1, .int .i64 t.2.2.2]
theorem encC_tup (c : ChT) : encC (tupC c) = c.cells := rfl
theorem flat_chCs (L : List ChT) : flatK encC 4 (L.map tupC).toArray = (chCs L).toArray := by
  refine ext_get! (by simp [chCs_len]) fun t ht => ?_
  have ht' : t < (L.map tupC).toArray.size * 4 := by simpa using ht
  have htl : t < L.length * 4 := by simpa using ht'
  rw [get_flatK _ _ _ t ht']
  have hq : t / 4 < L.length := by omega
  obtain ⟨s, hs⟩ : ∃ s, L[t / 4]? = some s := ⟨L[t / 4], List.getElem?_eq_getElem hq⟩
  obtain ⟨x, hx⟩ : ∃ x, s.cells[t % 4]? = some x := ⟨s.cells[t % 4]'(by simp; omega), List.getElem?_eq_getElem _⟩
  have h1 := chCs_at L (t / 4) (t % 4) s x hs hx []
  rw [List.append_nil, show t / 4 * 4 + t % 4 = t by omega] at h1
  have h2 : (L.map tupC).toArray[t / 4]! = tupC s := by
    rw [getElem!_pos _ _ (by simpa using hq)]
    simp [(List.getElem?_eq_some_iff.1 hs).2]
  rw [h2, encC_tup]
  have h3 : (s.cells)[t % 4]! = x := by
    rw [List.getElem!_eq_getElem?_getD, hx]
    rfl
  have h4 : (chCs L).toArray[t]! = x := by
    rw [getElem!_pos _ _ (by simpa [chCs_len] using htl)]
    simpa using (List.getElem?_eq_some_iff.1 h1).2
  rw [h3, h4]
theorem owns_cells {w : World} {B e s n g cap : Nat} {xs : List Value} (h : w.ownsRow B e s (.slice (some ⟨g, 0, none⟩) n cap) n xs) : ∃ cur, w.heap[g]? = some (.cells cur e (0, 0)) ∧ B ≤ g ∧ n ≤ cap ∧ cap ≤ maxLen ∧ cur.size = cap * s ∧ cur.toList.take (n * s) = xs ∧ xs.length = n * s := by
  rcases h.2 with ⟨h0, _⟩ | ⟨g', cap', cur, hv, hB, hg, hn, hc, hsz, ht⟩
  · cases h0
  · cases hv
    exact ⟨cur, hg, hB, hn, hc, hsz, ht, h.1⟩
theorem reverse_any (base : Nat) (v : Value) (L : List ChT) (w : World) (hr : w.ownsRow base 50 4 v L.length (chCs L)) :
    Calls Tryz.prog 33 #[v] w fun e w' => e = .returned (.tuple #[]) ∧ w'.ownsRow base 50 4 v L.length (chCs L.reverse) ∧ Chg w w' (fun k => v.ownBlock = some k) := by
  obtain ⟨a, c, rfl, hnc⟩ := owns_form hr
  cases a with
  | none =>
    have h0 : L = [] := by
      rcases hs_of_row hr with h | ⟨b, o, h, _⟩
      · exact h
      · cases h
    subst h0
    refine (AnyQ.slices_Reverse_empty Tryz.revC none c w).mono ?_
    rintro e w' ⟨rfl, rfl⟩
    exact ⟨rfl, hr, Chg.refl _ _⟩
  | some ad =>
    have had : ∃ g, ad = ⟨g, 0, none⟩ := by
      rcases hr.2 with ⟨h0, _⟩ | ⟨g', cap', cur, hv, _⟩
      · cases h0
      · cases hv
        exact ⟨g', rfl⟩
    obtain ⟨g, rfl⟩ := had
    obtain ⟨cur, hg, hB, hn, hc, hsz, ht, hlen⟩ := owns_cells hr
    have hH : HoldsK encC 4 w g 0 (L.map tupC).toArray := by
      unfold HoldsK
      rw [flat_chCs]
      intro j hj
      have hj' : j < (chCs L).length := by simpa using hj
      refine ⟨?_, by simp [World.frozen?, hg]⟩
      rw [Nat.zero_add]
      have h1 : (chCs L)[j]? = some ((chCs L)[j]'hj') := List.getElem?_eq_getElem hj'
      rw [cell_n hr h1]
      simp [getElem!_pos, hj']
    have hbig : (L.map tupC).toArray.size ≤ 9223372036854775807 := by
      have : L.length ≤ maxLen := by omega
      unfold maxLen at this
      simp
      omega
    have hcall := AnyQ.slices_Reverse Tryz.revC 4 Tryz.isAgg50 Tryz.sizeOf50 encC (fun _ => rfl) (fun x v hv => by
      simp only [encC, List.mem_cons, List.not_mem_nil, or_false] at hv
      rcases hv with rfl | rfl | rfl | rfl <;> rfl) g 0 c (L.map tupC).toArray w hH hbig
    have hsize : (L.map tupC).toArray.size = L.length := by simp
    rw [hsize] at hcall
    refine Calls.mono hcall ?_
    rintro e w' ⟨rfl, m, rfl⟩
    have hrev : (L.map tupC).toArray.reverse = (L.reverse.map tupC).toArray := by simp
    have hF : flatK encC 4 (L.map tupC).toArray.reverse = (chCs L.reverse).toArray := by rw [hrev, flat_chCs]
    have hw : putRowK encC 4 (Sort.ahead w m) g 0 (L.map tupC).toArray.reverse = putRow id (Sort.ahead w m) g 0 (chCs L.reverse).toArray := by unfold putRowK; rw [hF]
    rw [hw]
    have hlr : (chCs L.reverse).length = L.length * 4 := by rw [chCs_len, List.length_reverse]
    have hheap : (putRow id (Sort.ahead w m) g 0 (chCs L.reverse).toArray).heap = w.heap.modify g (onCells (putCells id 0 (chCs L.reverse).toArray)) := rfl
    have hgn : (putRow id (Sort.ahead w m) g 0 (chCs L.reverse).toArray).heap[g]? = some (.cells (putCells id 0 (chCs L.reverse).toArray cur) 50 (0, 0)) := by
      rw [hheap, Array.getElem?_modify, if_pos rfl, hg]
      rfl
    refine ⟨rfl, ⟨hlr, .inr ⟨g, c, putCells id 0 (chCs L.reverse).toArray cur, rfl, hB, hgn, hn, hc, ?_, ?_⟩⟩, ?_⟩
    · simp [putCells, hsz]
    · apply List.ext_getElem?
      intro i
      rw [List.getElem?_take]
      split
      · rename_i hi
        have hic : i < cur.size := by rw [hsz]; have := Nat.mul_le_mul_right 4 hn; omega
        have hil : i < (chCs L.reverse).length := by omega
        rw [Array.getElem?_toList]
        unfold putCells
        rw [Array.getElem?_mapIdx, Array.getElem?_eq_getElem hic]
        simp [hil, getElem!_pos]
      · rename_i hi
        rw [List.getElem?_eq_none (by omega)]
    · refine ⟨rfl, rfl, rfl, by rw [hheap]; simp, fun k hk hn' => ?_⟩
      rw [hheap, Array.getElem?_modify, if_neg (fun e => hn' (by rw [e]; rfl))]
end Go.Proofs.YtponpkfdkdnaeaaGreatDoor
namespace Go.Proofs.YtponpkfdkdnaeaaGreatDoor
open Go.RowKit Classical
set_option linter.unusedVariables false
set_option linter.unusedSimpArgs false

theorem isP_size {x : ByteArray} (h : isP x = true) : x.size ≤ 102 := by
  obtain ⟨⟨c, xs⟩, hp⟩ : ∃ q, parse x = q := ⟨_, rfl⟩
  have hc : c = 0 := by have := isP_iff.1 h; rw [hp] at this; exact this
  subst hc
  have hl := parse_len hp
  rw [← parse_back hp]
  exact place_size hl.1 hl.2
structure Sized (st : Int) (p : ByteArray) (k : Int) (l : List SeenT) : Prop where
  st : 0 ≤ st ∧ st ≤ 2147483647
  p : p.size ≤ 102
  k : 1 ≤ k ∧ k ≤ 3
  len : l.length ≤ 64
  each : ∀ s ∈ l, s.p.size ≤ 1000 ∧ s.d.size ≤ 1000
  asc : Asc l
theorem sized_of_good {st : Int} {p : ByteArray} {k : Int} {l : List SeenT} (h : Good st p k l) : Sized st p k l := by
  have h1 : 0 ≤ st ∧ st ≤ 2147483647 := by have := h.1; simpa [isNum] using this
  obtain ⟨h2, h3, h4⟩ := (cov_self k p).1 h.2.1
  refine ⟨h1, isP_size h2, ⟨h3, h4⟩, h.2.2.1, fun s hs => ?_, ?_⟩
  · obtain ⟨i, hi⟩ := List.getElem?_of_mem hs
    have hm := h.2.2.2.2 i s hi
    unfold mayB at hm
    simp only [Bool.and_eq_true] at hm
    have hc := (cov_in h2 ⟨h3, h4⟩).1 hm.1.1.1
    have hf := hm.1.1.2
    unfold fitB isNum at hf
    simp only [Bool.and_eq_true, decide_eq_true_eq] at hf
    have := isP_size hc.1
    omega
  · have := asc_of_may (k := k) (p := p) (l := l) l.length (Nat.le_refl _) (fun i n _ hn => h.2.2.2.2 i n hn)
    rw [List.take_length] at this
    exact this
/-- What a Diff answers. -/
structure DRes (st : Int) (p : ByteArray) (k : Int) (la : List SeenT) (st' : Int) (p' : ByteArray) (k' : Int) (lb : List SeenT) (code : Int) (D : List ChT) : Prop where
  bad : ¬ (Good st p k la ∧ Good st' p' k' lb) → code = 51 ∧ D = []
  apart : Good st p k la → Good st' p' k' lb → ¬ (p = p' ∧ k = k') → code = 1 ∧ D = []
  all : Good st p k la → Good st' p' k' lb → p = p' → k = k' → code = 0 ∧ D = (goneL la lb).reverse ++ turnL la lb
theorem DRes.one {st : Int} {p : ByteArray} {k : Int} {la : List SeenT} {st' : Int} {p' : ByteArray} {k' : Int} {lb : List SeenT} {c c' : Int} {D D' : List ChT} (h : DRes st p k la st' p' k' lb c D) (h' : DRes st p k la st' p' k' lb c' D') : c = c' ∧ D = D' := by
  by_cases hg : Good st p k la ∧ Good st' p' k' lb
  · by_cases he : p = p' ∧ k = k'
    · have h1 := h.all hg.1 hg.2 he.1 he.2
      have h2 := h'.all hg.1 hg.2 he.1 he.2
      exact ⟨h1.1.trans h2.1.symm, h1.2.trans h2.2.symm⟩
    · have h1 := h.apart hg.1 hg.2 he
      have h2 := h'.apart hg.1 hg.2 he
      exact ⟨h1.1.trans h2.1.symm, h1.2.trans h2.2.symm⟩
  · have h1 := h.bad hg
    have h2 := h'.bad hg
    exact ⟨h1.1.trans h2.1.symm, h1.2.trans h2.2.symm⟩
theorem DRes.len {st : Int} {p : ByteArray} {k : Int} {la : List SeenT} {st' : Int} {p' : ByteArray} {k' : Int} {lb : List SeenT} {c : Int} {D : List ChT} (h : DRes st p k la st' p' k' lb c D) : D.length ≤ 1000 := by
  by_cases hg : Good st p k la ∧ Good st' p' k' lb
  · by_cases he : p = p' ∧ k = k'
    · rw [(h.all hg.1 hg.2 he.1 he.2).2, List.length_append, List.length_reverse]
      have h1 := goneL_len la lb
      have h2 := turnL_len la lb
      have h3 := (sized_of_good hg.1).len
      have h4 := (sized_of_good hg.2).len
      omega
    · rw [(h.apart hg.1 hg.2 he).2]; simp
  · rw [(h.bad hg).2]; simp
/-- Two shots by value, in a frame. -/
structure TwoIn (w W : World) (A B : Array Value) : Prop where
  pa : W.heap[w.heap.size]? = some (.cells A 24 (0, 0))
  pb : W.heap[w.heap.size + 1]? = some (.cells B 24 (0, 0))
  low : Below w.heap.size w W
theorem TwoIn.start (w : World) (A B : Array Value) : TwoIn w ((w.alloc (.cells A 24)).alloc (.cells B 24)) A B := ⟨new_old (heap_alloc_new _ _) _, heap_new' (by simp), ((Below.refl _ _).alloc (Nat.le_refl _) _).alloc (by simp) _⟩
theorem TwoIn.below {w W W' : World} {A B : Array Value} (h : TwoIn w W A B) (hb : Below W.heap.size W W') : TwoIn w W' A B := ⟨kept_block hb h.pa, kept_block hb h.pb, trans2 h.low hb⟩
end Go.Proofs.YtponpkfdkdnaeaaGreatDoor
namespace Go.Proofs.YtponpkfdkdnaeaaGreatDoor
open Go.RowKit Classical
set_option linter.unusedVariables false
set_option linter.unusedSimpArgs false

set_option maxHeartbeats 6400000 in
set_option maxRecDepth 100000 in
theorem diff_any (st : Int) (p : ByteArray) (k : Int) (a : Option Addr) (c n : Nat) (la : List SeenT) (st' : Int) (p' : ByteArray) (k' : Int) (b : Option Addr) (d m : Nat) (lb : List SeenT) (w : World) (hg : Ground w) (hsa : Ss w a la) (hsb : Ss w b lb) (hna : la.length = n) (hnb : lb.length = m) (hca : n ≤ c) (hcb : m ≤ d) (h0a : a = none → c = 0) (h0b : b = none → d = 0) (hla : n ≤ 1000) (hlb : m ≤ 1000) (oka : ∀ s ∈ la, s.p.size ≤ maxLen) (okb : ∀ s ∈ lb, s.p.size ≤ maxLen) :
    Calls Tryz.prog 15 #[.agg (shA st p k a n c), .agg (shA st' p' k' b m d)] w fun e w' => ∃ va vc code D, e = .returned (.tuple #[.slice va D.length vc, .int .i64 code]) ∧ DRes st p k la st' p' k' lb code D ∧ Hs w' va D ∧ Below w.heap.size w w' := by
  have hma : n ≤ maxLen := by unfold maxLen; omega
  have hmb : m ≤ maxLen := by unfold maxLen; omega
  have HCA : Hid (∀ w', Below w.heap.size w w' → Calls Tryz.prog 7 #[.agg (shA st p k a n c)] w' fun e w'' => e = .returned (.int .i64 (chk st p k la)) ∧ Below w'.heap.size w' w'') := fun w' hb => by
    subst hna
    exact check_any st p k a c la w' (hg.below hb) (hsa.below hb) oka hma hca
  have HCB : Hid (∀ w', Below w.heap.size w w' → Calls Tryz.prog 7 #[.agg (shA st' p' k' b m d)] w' fun e w'' => e = .returned (.int .i64 (chk st' p' k' lb)) ∧ Below w'.heap.size w' w'') := fun w' hb => by
    subst hnb
    exact check_any st' p' k' b d lb w' (hg.below hb) (hsb.below hb) okb hmb hcb
  have H0 : Hid (TwoIn w _ (shA st p k a n c) (shA st' p' k' b m d)) := TwoIn.start w (shA st p k a n c) (shA st' p' k' b m d)
  have HSA : Hid (Ss w a la) := hsa
  have HSB : Hid (Ss w b lb) := hsb
  have HNA : Hid (la.length = n) := hna
  have HNB : Hid (lb.length = m) := hnb
  have H0A : Hid (a = none → c = 0) := h0a
  have H0B : Hid (b = none → d = 0) := h0b
  clear hg hsa hsb hna hnb oka okb hma hmb h0a h0b
  by_cases ga : Good st p k la
  · rw [chk_good ga] at HCA
    have HGA : Hid (Good st p k la) := ga
    have SA : Hid (Sized st p k la) := sized_of_good ga
    clear ga
    by_cases gb : Good st' p' k' lb
    · rw [chk_good gb] at HCB
      have HGB : Hid (Good st' p' k' lb) := gb
      have SB : Hid (Sized st' p' k' lb) := sized_of_good gb
      clear gb
      by_cases hp : p = p'
      · subst hp
        by_cases hk : k = k'
        · subst hk
          go_enter Tryz.func15, Tryz.ntmps15
          go_wp2_with fail
          refine (HCA.out _ H0.out.low).mono ?_
          rintro e w1 ⟨rfl, hb1⟩
          have H1 : Hid (TwoIn w w1 (shA st p k a n c) (shA st' p k b m d)) := H0.out.below hb1
          obtain ⟨a0, a1, a2, a3⟩ := cells_4 H1.out.pa
          obtain ⟨b0, b1, b2, b3⟩ := cells_4 H1.out.pb
          clear hb1
          go_wp2_with fail
          refine (HCB.out _ H1.out.low).mono ?_
          rintro e w2 ⟨rfl, hb2⟩
          have H2 : Hid (TwoIn w w2 (shA st p k a n c) (shA st' p k b m d)) := H1.out.below hb2
          clear hb2 a0 a1 a2 a3 b0 b1 b2 b3
          obtain ⟨a0, a1, a2, a3⟩ := cells_4 H2.out.pa
          obtain ⟨b0, b1, b2, b3⟩ := cells_4 H2.out.pb
          go_wp2_with fail
          refine (parting_any a b c d n m la lb w2 (HSA.out.below H2.out.low) (HSB.out.below H2.out.low) HNA.out HNB.out hca hcb H0A.out H0B.out (by have := SA.out.len; rw [HNA.out] at this; exact this) (by have := SB.out.len; rw [HNB.out] at this; exact this) SA.out.asc SB.out.asc SA.out.each SB.out.each).mono ?_
          rintro e w3 ⟨vg, vt, rfl, hps⟩
          obtain ⟨G, hG⟩ : ∃ G, goneL la lb = G := ⟨_, rfl⟩
          obtain ⟨T, hT⟩ : ∃ T, turnL la lb = T := ⟨_, rfl⟩
          rw [hG, hT] at hps
          have HG : Hid (goneL la lb = G) := hG
          have HT : Hid (turnL la lb = T) := hT
          have HGL : Hid (G.length ≤ 64) := by show _ ≤ _; rw [← hG]; exact Nat.le_trans (goneL_len _ _) SA.out.len
          have HTL : Hid (T.length ≤ 64) := by show _ ≤ _; rw [← hT]; exact Nat.le_trans (turnL_len _ _) SB.out.len
          have HPS : Hid (PS w2 w3 vg vt G T) := hps
          have HRV : Hid _ := reverse_any w2.heap.size vg G w3 hps.g
          clear hps hG hT a0 a1 a2 a3 b0 b1 b2 b3
          go_wp2_with fail
          refine Calls.mono HRV.out ?_
          rintro e w4 ⟨rfl, hr4, hc4⟩
          have HP4 : Hid (PS w2 w4 vg vt G.reverse T) := ⟨by rw [List.length_reverse]; exact hr4, owns_same HPS.out.t (fun j hj => hc4.block j (HPS.out.t.lt j hj).2 (fun e => HPS.out.ne j e hj)), HPS.out.ne, HPS.out.low.trans (hc4.below HPS.out.low.size (fun j _ hj => (HPS.out.g.lt j hj).1))⟩
          obtain ⟨ta, tc, rfl, htn⟩ := owns_form HPS.out.t
          have HH4 : Hid (Hs w4 ta T) := hs_of_row HP4.out.t
          have HN4 : Hid (ta = none → tc = 0) := htn
          have HGR : Hid (w4.ownsRow w2.heap.size 50 4 vg G.length (chCs G.reverse)) := hr4
          clear hr4 hc4 htn
          go_wp2_with (first
            | (at_builtin; refine wpList_appC rfl _ _ rfl w2.heap.size vg G.length (chCs G.reverse) rfl HGR.out ta T.length tc T rfl rfl HH4.out HN4.out (by have := HGL.out; have := HTL.out; omega) HP4.out.low.size ?_
               intro v5 w5 ho hg hat
               obtain ⟨va, vc, rfl, _⟩ := owns_form ho
               have HD5 : Hid (Hs w5 va (G.reverse ++ T)) := hs_of_row (by rw [chCs_append]; exact ho)
               have HB5 : Hid (Below w.heap.size w w5) := trans2 H2.out.low (HP4.out.low.trans ((Below.refl _ _).grown hg HP4.out.low.size (fun j hj => (HP4.out.g.lt j hj).1)))
               clear ho hg hat)
            | fail)
          go_ret2
          refine ⟨va, vc, 0, G.reverse ++ T, by rw [List.length_append, List.length_reverse]; rfl, ⟨fun h => absurd ⟨HGA.out, HGB.out⟩ h, fun _ _ h => absurd ⟨rfl, rfl⟩ h, fun _ _ _ _ => ⟨rfl, by rw [HG.out, HT.out]⟩⟩, HD5.out, HB5.out⟩
        · have hkb : (k != k') = true := by simpa using hk
          have HK : Hid (¬ k = k') := hk
          clear hk
          go_enter Tryz.func15, Tryz.ntmps15
          go_wp2_with fail
          refine (HCA.out _ H0.out.low).mono ?_
          rintro e w1 ⟨rfl, hb1⟩
          have H1 : Hid (TwoIn w w1 (shA st p k a n c) (shA st' p k' b m d)) := H0.out.below hb1
          obtain ⟨a0, a1, a2, a3⟩ := cells_4 H1.out.pa
          obtain ⟨b0, b1, b2, b3⟩ := cells_4 H1.out.pb
          clear hb1
          go_wp2_with fail
          refine (HCB.out _ H1.out.low).mono ?_
          rintro e w2 ⟨rfl, hb2⟩
          have H2 : Hid (TwoIn w w2 (shA st p k a n c) (shA st' p k' b m d)) := H1.out.below hb2
          clear hb2 a0 a1 a2 a3 b0 b1 b2 b3
          obtain ⟨a0, a1, a2, a3⟩ := cells_4 H2.out.pa
          obtain ⟨b0, b1, b2, b3⟩ := cells_4 H2.out.pb
          go_wp2_with fail
          go_ret2
          exact ⟨none, 0, 1, [], rfl, ⟨fun h => absurd ⟨HGA.out, HGB.out⟩ h, fun _ _ _ => ⟨rfl, rfl⟩, fun _ _ _ h => absurd h HK.out⟩, .inl rfl, H2.out.low⟩
      · have hpb := list_ne hp
        have HP : Hid (¬ p = p') := hp
        clear hp
        go_enter Tryz.func15, Tryz.ntmps15
        go_wp2_with fail
        refine (HCA.out _ H0.out.low).mono ?_
        rintro e w1 ⟨rfl, hb1⟩
        have H1 : Hid (TwoIn w w1 (shA st p k a n c) (shA st' p' k' b m d)) := H0.out.below hb1
        obtain ⟨a0, a1, a2, a3⟩ := cells_4 H1.out.pa
        obtain ⟨b0, b1, b2, b3⟩ := cells_4 H1.out.pb
        clear hb1
        go_wp2_with fail
        refine (HCB.out _ H1.out.low).mono ?_
        rintro e w2 ⟨rfl, hb2⟩
        have H2 : Hid (TwoIn w w2 (shA st p k a n c) (shA st' p' k' b m d)) := H1.out.below hb2
        clear hb2 a0 a1 a2 a3 b0 b1 b2 b3
        obtain ⟨a0, a1, a2, a3⟩ := cells_4 H2.out.pa
        obtain ⟨b0, b1, b2, b3⟩ := cells_4 H2.out.pb
        go_wp2_with fail
        go_ret2
        exact ⟨none, 0, 1, [], rfl, ⟨fun h => absurd ⟨HGA.out, HGB.out⟩ h, fun _ _ _ => ⟨rfl, rfl⟩, fun _ _ h _ => absurd h HP.out⟩, .inl rfl, H2.out.low⟩
    · rw [chk_bad gb] at HCB
      have HGB : Hid (¬ Good st' p' k' lb) := gb
      clear gb
      go_enter Tryz.func15, Tryz.ntmps15
      go_wp2_with fail
      refine (HCA.out _ H0.out.low).mono ?_
      rintro e w1 ⟨rfl, hb1⟩
      have H1 : Hid (TwoIn w w1 (shA st p k a n c) (shA st' p' k' b m d)) := H0.out.below hb1
      obtain ⟨b0, b1, b2, b3⟩ := cells_4 H1.out.pb
      clear hb1
      go_wp2_with fail
      refine (HCB.out _ H1.out.low).mono ?_
      rintro e w2 ⟨rfl, hb2⟩
      have HB2 : Hid (Below w.heap.size w w2) := trans2 H1.out.low hb2
      clear hb2 b0 b1 b2 b3
      go_wp2_with fail
      go_ret2
      exact ⟨none, 0, 51, [], rfl, ⟨fun _ => ⟨rfl, rfl⟩, fun _ h => absurd h HGB.out, fun _ h => absurd h HGB.out⟩, .inl rfl, HB2.out⟩
  · rw [chk_bad ga] at HCA
    have HGA : Hid (¬ Good st p k la) := ga
    clear ga
    go_enter Tryz.func15, Tryz.ntmps15
    go_wp2_with fail
    refine (HCA.out _ H0.out.low).mono ?_
    rintro e w1 ⟨rfl, hb1⟩
    have HB1 : Hid (Below w.heap.size w w1) := trans2 H0.out.low hb1
    clear hb1
    go_wp2_with fail
    go_ret2
    exact ⟨none, 0, 51, [], rfl, ⟨fun _ => ⟨rfl, rfl⟩, fun h => absurd h HGA.out, fun h => absurd h HGA.out⟩, .inl rfl, HB1.out⟩
end Go.Proofs.YtponpkfdkdnaeaaGreatDoor
