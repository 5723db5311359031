import Derived.Test.YtdjfeomdiljaeaaGreatDoorNtCk1
import Derived.Test.YtdjfeomdiljaeaaGreatDoorNtEe
namespace Go.Proofs.YtdjfeomdiljaeaaGreatDoor
open Go.RowKit
set_option linter.unusedVariables false
set_option linter.unusedSimpArgs false

set_option maxHeartbeats 3200000 in
set_option maxRecDepth 100000 in
theorem wf_any (bw : Nat) (v : Value) (xs : List Int) (b : Nat) (N : NoN) (fa : Option Addr) (fc : Nat) (X : List FieldT) (wk w : World) (h : WrAt 67 w bw v xs) (hk : Bk wk w bw) (hN : NB wk b N) (hb : b < bw) (hA : N.At wk) (hX : RowC wk fa 5 (X.map fun x => x.1.cl)) (hC : ∀ x ∈ X, x.1.Ck wk x.2.1 x.2.2)
    (ts : List WrT) (hts : X.map (fun x => wrT x.1.nm) = ts.map some) (hG : ∀ t ∈ ts, t.2 N) (hl : xs.length + (ts.flatMap (fun t => t.1 N)).length ≤ 1000000) :
    Calls Tryz.prog 59 #[.pointer (some ⟨bw, 0, none⟩), .pointer (some ⟨b, 0, none⟩), .slice fa X.length fc] w (WrEnd 67 bw v xs (ts.flatMap (fun t => t.1 N)) w) := by
  obtain ⟨T, hT⟩ : ∃ T, ts.flatMap (fun t => t.1 N) = T := ⟨_, rfl⟩
  have HT : Hid (ts.flatMap (fun t => t.1 N) = T) := hT
  obtain ⟨m, hm⟩ : ∃ m, X.length = m := ⟨_, rfl⟩
  have HM : Hid (X.length = m) := hm
  have hlen := hX.len (f := fun x : FieldT => x.1.cl)
  have HTL : Hid (ts.length = X.length) := by
    have := congrArg List.length hts
    simp only [List.length_map] at this
    exact this.symm
  rw [hm] at hlen
  rw [hT] at hl ⊢
  rw [hm]
  have HW : Hid (WrAt 67 w bw v xs) := h
  have HK : Hid (Bk wk w bw) := hk
  have HN : Hid (NB wk b N) := hN
  have HA : Hid (N.At wk) := hA
  have HX : Hid (RowC wk fa 5 (X.map fun x => x.1.cl)) := hX
  have HC : Hid (∀ x ∈ X, x.1.Ck wk x.2.1 x.2.2) := hC
  have HTS : Hid (X.map (fun x => wrT x.1.nm) = ts.map some) := hts
  have HG : Hid (∀ t ∈ ts, t.2 N) := hG
  clear hT hm h hk hN hA hX hC hts hG
  go_enter Tryz.func59, Tryz.ntmps59
  go_wp2_with fail
  go_loopw [10] (fun iv wr => ∃ (q : Nat) (vq : Value), iv = .int .i64 q ∧ q ≤ m ∧ Hid (WrQ 67 w bw v xs wr vq ((ts.take q).flatMap (fun t => t.1 N)))) (fun iv _ => m - (intOf iv).toNat)
  case atStart => exact ⟨0, v, rfl, Nat.zero_le _, by show WrQ _ _ _ _ _ _ _ _; rw [List.take_zero, List.flatMap_nil]; exact WrQ.start HW.out⟩
  case round =>
    obtain ⟨q, vq, rfl, hqm, HSq⟩ := hrel
    by_cases hlt : q < m
    · have hlt' : (q : Int) < (m : Int) := by omega
      obtain ⟨x, hx⟩ : ∃ x, X[q]? = some x := ⟨X[q]'(by rw [HM.out]; exact hlt), List.getElem?_eq_getElem _⟩
      obtain ⟨t, ht⟩ : ∃ t, ts[q]? = some t := ⟨ts[q]'(by rw [HTL.out, HM.out]; exact hlt), List.getElem?_eq_getElem _⟩
      have hwr : wrT x.1.nm = some t := by
        have h1 := congrArg (fun l : List (Option WrT) => l[q]?) HTS.out
        simp only [List.getElem?_map, hx, ht, Option.map_some] at h1
        exact Option.some.inj h1
      have HTQ : Hid (ts[q]? = some t) := ht
      have HGT : Hid (t.2 N) := HG.out t (List.mem_of_getElem? ht)
      have HWC : Hid (WrC wk x.1.wF x.1.wC t) := (HC.out x (List.mem_of_getElem? hx)).wr t hwr
      have hic := HWC.out.1
      obtain ⟨g, o, rfl, n0, n1, n2, n3, n4⟩ := (HX.out.bk (HK.out.step HSq.out.low)).at5 (map_at (f := fun x : FieldT => x.1.cl) hx)
      have hfl := flat_le (f := fun t : WrT => t.1 N) ht
      clear hx ht hwr
      go_upto_region 3 with fail
      obtain ⟨h1, hh1⟩ : ∃ h1, wr.heap.size = h1 := ⟨_, rfl⟩
      obtain ⟨w1, hw1⟩ : ∃ w1, wr.alloc (.cells #[.string x.1.nm, .func (.func x.1.cF) #[] x.1.cC, .func (.func x.1.eF) #[] x.1.eC, .func (.func x.1.wF) #[] x.1.wC, .func (.func x.1.rF) #[] x.1.rC] 148) = w1 := ⟨_, rfl⟩
      have hb1 : Below wr.heap.size wr w1 := by rw [← hw1]; exact (Below.refl _ _).alloc (Nat.le_refl _) _
      have HF1 : Hid (w1.heap[h1]? = some (.cells #[.string x.1.nm, .func (.func x.1.cF) #[] x.1.cC, .func (.func x.1.eF) #[] x.1.eC, .func (.func x.1.wF) #[] x.1.wC, .func (.func x.1.rF) #[] x.1.rC] 148 (0, 0))) := by show _ = _; rw [← hw1, ← hh1]; exact heap_alloc_new _ _
      have HS1 : Hid (WrQ 67 w bw v xs w1 vq ((ts.take q).flatMap (fun t => t.1 N))) := HSq.out.ext hb1
      rw [hw1, hh1]
      have hk1 : Bk wk w1 bw := HK.out.step HS1.out.low
      have HCL : Hid (Calls Tryz.prog x.1.wF (#[.pointer (some ⟨bw, 0, none⟩), .pointer (some ⟨b, 0, none⟩)] ++ x.1.wC) w1 (WrEnd 67 bw vq (xs ++ (ts.take q).flatMap (fun t => t.1 N)) (t.1 N) w1)) :=
        HWC.out.2 w1 wk b bw vq _ N hk1.low hk1.le (kept_block hk1.low HN.out) hb HA.out hk1 HS1.out.at' HGT.out (by rw [List.length_append]; have := congrArg List.length HT.out; omega)
      clear hw1 hh1 hb1 hk1 n0 n1 n2 n3 n4 hfl
      obtain ⟨d0, d1, d2, d3, d4⟩ := cells_5N HF1.out
      go_wp2_with (first
        | (refine Calls.mono HCL.out ?_; intro e w2 hE; obtain ⟨v2, rfl, hs⟩ := HS1.out.step hE
           have HS2 : Hid (WrQ 67 w bw v xs w2 v2 ((ts.take (q + 1)).flatMap (fun t => t.1 N))) := by
             show WrQ _ _ _ _ _ _ _ _
             rw [flat_take HTQ.out]
             exact hs
           clear hE hs)
        | fail)
      go_roundw
      case rel => exact ⟨q + 1, v2, by go_num, by omega, HS2⟩
      case measure => simp [intOf]; omega
    · have hlt' : ¬ (q : Int) < (m : Int) := by omega
      go_wp2_with fail
      refine bodyPost_end (results_none rfl _ _ _) rfl (HSq.out.done ?_)
      rw [List.take_of_length_le (by have := HM.out; have := HTL.out; omega), HT.out]
end Go.Proofs.YtdjfeomdiljaeaaGreatDoor
namespace Go.Proofs.YtdjfeomdiljaeaaGreatDoor
open Go.RowKit
set_option linter.unusedVariables false
set_option linter.unusedSimpArgs false

/-- The fields of a kind's text, as they write. -/
def wtS (s : ByteArray) : List (Option WrT) := (Lib.fields s.data.toList).map fun l => match allT[fidx l]? with | some t => wrT t.1 | none => none
theorem wtS_of {s : ByteArray} {X : List FieldT} (h : X.map (fun x => some (x.1.nm, x.2)) = (Lib.fields s.data.toList).map fun l => allT[fidx l]?) : X.map (fun x => wrT x.1.nm) = wtS s := by
  have e : wtS s = ((Lib.fields s.data.toList).map fun l => allT[fidx l]?).map (fun o => match o with | some t => wrT t.1 | none => none) := by
    rw [List.map_map]
    rfl
  rw [e, ← h, List.map_map]
  rfl
set_option maxHeartbeats 3200000 in
set_option maxRecDepth 100000 in
theorem enc2_any (b : Nat) (N : NoN) (k : Nat) (s : ByteArray) (ts : List WrT) (hk1 : 1 ≤ k) (hk2 : k < 25) (hs : kfT[k]? = some s) (hNK : N.K = k) (hts : wtS s = ts.map some) (hG : ChkP s N → ∀ t ∈ ts, t.2 N) (hl : 5 + (ts.flatMap (fun t => t.1 N)).length ≤ 1000000) (w : World) (hK : KfAt w) (hKb : ∀ w', Below w.heap.size w w' → KfAt w') (hN : NB w b N) (hA : N.At w) (hg : Ground w) :
    Calls Tryz.prog 57 #[ptV b] w fun e w1 => ((∃ V, e = .returned V ∧ (ChkP s N ∧ ∃ a c, V = .slice a (nmL k ++ ts.flatMap (fun t => t.1 N)).length c ∧ w1.ownsRow w.heap.size 5 1 V (nmL k ++ ts.flatMap (fun t => t.1 N)).length (bv (nmL k ++ ts.flatMap (fun t => t.1 N))))) ∨ e = .panicked PN ∧ ¬ ChkP s N) ∧ Below w.heap.size w w1 := by
  obtain ⟨ok, hok⟩ : ∃ ok : Prop, ChkP s N = ok := ⟨_, rfl⟩
  have HOK : Hid (ChkP s N = ok) := hok
  obtain ⟨T, hT⟩ : ∃ T, ts.flatMap (fun t => t.1 N) = T := ⟨_, rfl⟩
  have HT : Hid (ts.flatMap (fun t => t.1 N) = T) := hT
  have HG : Hid (ChkP s N → ∀ t ∈ ts, t.2 N) := hG
  rw [hok, hT]
  rw [hT] at hl
  clear hok hT hG
  have hc := hN.cell (i := 0) (v := .int .i64 N.K) rfl
  rw [hNK] at hc
  have HN : Hid (NB w b N) := hN
  have HA : Hid (N.At w) := hA
  have HGR : Hid (Ground w) := hg
  have HTS : Hid (wtS s = ts.map some) := hts
  have HKK : Hid (inN (k : Int)) := by show inN _; exact ⟨by omega, by omega⟩
  have HNK : Hid (N.K = k) := hNK
  have HCN : Hid ((Lib.fields s.data.toList).length ≤ 100) := by
    have h3 := List.all_eq_true.1 cnt_ok s (List.mem_of_getElem? hs)
    exact (of_decide_eq_true h3 : (Lib.fields s.data.toList).length ≤ 100)
  have HFO : Hid _ := fieldsOf_any k s hk1 hk2 hs w hK hKb
  clear hN hA hg hK hKb hNK hs hts
  go_enter Tryz.func57, Tryz.ntmps57
  go_wp2_with (first
    | (have hq := HSF; clear hq; go_at_call 59; refine Calls.mono HWFA.out ?_; intro e w4 hE
       obtain ⟨v4, rfl, hs4⟩ := HSF.out.step hE
       have HS4 : Hid (WrQ 67 (w2.alloc (.cells #[.slice none 0 0] 67)) w2.heap.size (.slice none 0 0) [] w4 v4 (nmL k ++ T)) := hs4
       clear hE hs4
       have c9 := cells_1 HS4.out.at'.box)
    | (have hq := H1; clear hq; go_at_call 58; refine Calls.mono (wr_num w2.heap.size _ [] k _ (WrAt.new w2) HKK.out (by have := nmLe HKK.out; simp only [List.length_nil]; omega)) ?_; intro e w3 hE
       obtain ⟨v3, rfl, hs3⟩ := (WrQ.start (WrAt.new (t := 67) w2)).step (by rw [List.append_nil]; exact hE)
       have HSF : Hid (WrQ 67 (w2.alloc (.cells #[.slice none 0 0] 67)) w2.heap.size (.slice none 0 0) [] w3 v3 (nmL k)) := hs3
       have HK3 : Hid (Bk w1 w3 w2.heap.size) := ⟨HB12.out.size, (HB12.out.alloc HB12.out.size _).trans (hs3.low.mono HB12.out.size)⟩
       have HWFA : Hid (Calls Tryz.prog 59 #[.pointer (some ⟨w2.heap.size, 0, none⟩), .pointer (some ⟨b, 0, none⟩), .slice a X.length c] w3 (WrEnd 67 w2.heap.size v3 ([] ++ nmL k) T w3)) := by
         have h9 := wf_any w2.heap.size v3 ([] ++ nmL k) b N a c X w1 w3 hs3.at' HK3.out HN1.out (Nat.lt_of_lt_of_le (lt_of_blk HN1.out) HB12.out.size) HA1.out HRC.out HCK.out ts (by rw [wtS_of HM.out]; exact HTS.out) (HG.out (by rw [HOK.out]; exact H1.out)) (by have := nmLe HKK.out; rw [HT.out]; simp only [List.nil_append]; omega)
         rw [HT.out] at h9
         exact h9
       clear hE hs3 hc)
    | (go_at_call 41; refine Calls.mono HFO.out ?_; rintro e w1 ⟨v, X, rfl, ⟨a, c, rfl⟩, ho, hm, hck, hb⟩
       have HB1 : Hid (Below w.heap.size w w1) := hb
       have HM : Hid (X.map (fun x => some (x.1.nm, x.2)) = (Lib.fields s.data.toList).map fun l => allT[fidx l]?) := hm
       have HCK : Hid (∀ x ∈ X, x.1.Ck w1 x.2.1 x.2.2) := hck
       have hx : X.length ≤ maxLen := by
         have h3 := congrArg List.length hm
         simp only [List.length_map] at h3
         rw [h3]
         exact Nat.le_trans HCN.out (by decide)
       have HRC : Hid (RowC w1 a 5 (X.map fun x : FieldT => x.1.cl)) := ownsC (f := fun x : FieldT => x.1.cl) (k := 5) (fun x => rfl) hx ho rfl
       have HN1 : Hid (NB w1 b N) := kept_block hb HN.out
       have HA1 : Hid (N.At w1) := HA.out.below hb
       have HNC : Hid _ := note_ck b N a c X w1 HN1.out HA1.out (HGR.out.below hb) HRC.out hck
       clear hb hm hck ho hx hc)
    | (go_at_call 40; refine Calls.mono HNC.out ?_; rintro e w2 ⟨⟨rfl, h⟩ | ⟨rfl, h⟩, hb⟩
       rotate_left
       · exact ⟨rfl, .inr ⟨rfl, by rw [← HOK.out]; exact fun g => h ((chk_iff HM.out).2 g)⟩, xtransN HB1.out hb⟩
       have H1 : Hid ok := by show ok; rw [← HOK.out]; exact (chk_iff HM.out).1 h
       have HB12 : Hid (Below w1.heap.size w1 w2) := hb
       have hc : (w2.alloc (.cells #[.slice none 0 0] 67)).cell? ⟨b, 0, none⟩ = some (.int .i64 k) := by
         have h5 := (show NB (w2.alloc (.cells #[.slice none 0 0] 67)) b N from new_old (kept_block hb HN1.out) _).cell (i := 0) (v := .int .i64 N.K) rfl
         rw [HNK.out] at h5
         exact h5
       clear h hb)
    | fail)
  go_ret
  obtain ⟨ra, rc, rfl, _⟩ := bys_of_owns HS4.out.at'.row
  have hrow := HS4.out.at'.row
  refine ⟨.inl ⟨_, rfl, H1.out, ra, rc, rfl, owns_mono hrow (by have := HB1.out.size; have := HB12.out.size; omega)⟩, ?_⟩
  exact ((xtransN HB1.out HB12.out).alloc (by have := HB1.out.size; have := HB12.out.size; omega) _).trans (HS4.out.low.mono (by have := HB1.out.size; have := HB12.out.size; omega))
end Go.Proofs.YtdjfeomdiljaeaaGreatDoor
