/-
  note: Decode, of the four bytes that the law begins with.
-/
import Derived.Test.YtdjfeomdiljaeaaGreatDoorNtDv
namespace Go.Proofs.YtdjfeomdiljaeaaGreatDoor
open Go.RowKit
set_option linter.unusedVariables false
set_option linter.unusedSimpArgs false

abbrev zNo : NoN := ⟨0, 0, 0, 0, 0, 0, 0, 0, 0, 0, 0, none, 0, [], none, 0, [], 0, 0, 0, none, 0, [], none, 0, [], none, 0, [], none, 0, [], ⟨#[]⟩⟩
abbrev kNo : NoN := { zNo with K := 22 }
abbrev vNo : NoN := { zNo with K := 22, num := 3, pri := 2, bak := 1 }
theorem zNo_at (W : World) (N : NoN) (h1 : N.ops = []) (h2 : N.ents = []) (h3 : N.res = []) (h4 : N.was = []) (h5 : N.parts = []) (h6 : N.items = []) : N.At W := by
  have hr : ∀ (a : Option Addr) (k : Nat), RowC W a k [] := fun a k => ⟨by decide, .inl rfl⟩
  refine ⟨?_, ?_, ?_, ?_, ?_, ?_, ?_, ?_, ?_, ?_, ?_, ?_, ?_, ?_, ?_, ?_⟩
  · rw [h1]; exact hr _ _
  · rw [h1]; exact Nat.zero_le _
  · rw [h2]; exact hr _ _
  · rw [h2]; intro x hx; cases hx
  · rw [h2]; exact Nat.zero_le _
  · rw [h3]; exact hr _ _
  · rw [h3]; intro x hx; cases hx
  · rw [h3]; exact Nat.zero_le _
  · rw [h4]; exact hr _ _
  · rw [h4]; exact Nat.zero_le _
  · rw [h5]; exact hr _ _
  · rw [h5]; intro x hx; cases hx
  · rw [h5]; exact Nat.zero_le _
  · rw [h6]; exact hr _ _
  · rw [h6]; intro x hx; cases hx
  · rw [h6]; exact Nat.zero_le _
def dV : List Int := [22, 3, 2, 1]
theorem dV_is : dV = nmL 22 ++ (nmL 3 ++ (nmL 2 ++ nmL 1)) := by
  unfold nmL
  rw [numL_small (by decide), numL_small (by decide), numL_small (by decide), numL_small (by decide)]
  rfl
theorem vw_fields : (Lib.fields (kfT[22]'(by decide)).data.toList).map (fun l => allT[fidx l]?) = [some (nmVw, (fun N => nums [N.num, N.pri, N.bak]), (fun N => { N with num := 0, pri := 0, bak := 0 }))] := by kernel_rfl
abbrev PRv : Value → World → Prop := fun V _ => V = .agg #[.int .i64 22, .int .i64 3, .int .i64 2, .int .i64 1, .int .i64 0, .int .i64 0, .int .i64 0, .int .i64 0, .int .i64 0, .int .i64 0, .int .i64 0, .slice none 0 0, .slice none 0 0, .int .i64 0, .int .i64 0, .int .i64 0, .slice none 0 0, .slice none 0 0, .slice none 0 0, .slice none 0 0, .string ⟨#[]⟩]
set_option maxHeartbeats 6400000 in
set_option maxRecDepth 100000 in
theorem dec2_V (bd : Nat) (a : Option Addr) (c : Nat) (w : World) (hb : w.heap[bd]? = some (.cells #[.slice a dV.length c] 25 (0, 0))) (hx : Bys w a dV) (hc : dV.length ≤ c) (hcm : c ≤ maxLen) (hlt : ∀ b o, a = some ⟨b, o, none⟩ → b < w.heap.size) (hKb : ∀ w', Below w.heap.size w w' → KfAt w') (hg : Ground w) :
    Calls Tryz.prog 63 #[.pointer (some ⟨bd, 0, none⟩)] w fun e w1 => ((∃ cs : Array Value, e = .returned (.agg cs) ∧ cs.size = 21 ∧ cs.all (·.oneCell') = true ∧ PRv (.agg cs) w1) ∨ e = .panicked PN ∧ False) ∧ Below w.heap.size w w1 := by
  have c0 := cells_1 hb
  obtain ⟨rb, hrb⟩ : ∃ rb, w.heap.size = rb := ⟨_, rfl⟩
  have HRB : Hid (w.heap.size = rb) := hrb
  obtain ⟨w1, hw1⟩ : ∃ w1, w.alloc (.cells #[.int .i64 0, .int .i64 0, .int .i64 0, .int .i64 0, .int .i64 0, .int .i64 0, .int .i64 0, .int .i64 0, .int .i64 0, .int .i64 0, .int .i64 0, .slice none 0 0, .slice none 0 0, .int .i64 0, .int .i64 0, .int .i64 0, .slice none 0 0, .slice none 0 0, .slice none 0 0, .slice none 0 0, .string ⟨#[]⟩] 51) = w1 := ⟨_, rfl⟩
  have HW1 : Hid (w.alloc (.cells #[.int .i64 0, .int .i64 0, .int .i64 0, .int .i64 0, .int .i64 0, .int .i64 0, .int .i64 0, .int .i64 0, .int .i64 0, .int .i64 0, .int .i64 0, .slice none 0 0, .slice none 0 0, .int .i64 0, .int .i64 0, .int .i64 0, .slice none 0 0, .slice none 0 0, .slice none 0 0, .slice none 0 0, .string ⟨#[]⟩] 51) = w1) := hw1
  have HB1 : Hid (Below w.heap.size w w1) := by rw [← hw1]; exact (Below.refl _ _).alloc (Nat.le_refl _) _
  have HS1 : Hid (w1.heap.size = rb + 1) := by show _ = _; rw [← hw1, ← hrb]; simp
  have HX1 : Hid (w1.heap[rb]? = some (.cells #[.int .i64 0, .int .i64 0, .int .i64 0, .int .i64 0, .int .i64 0, .int .i64 0, .int .i64 0, .int .i64 0, .int .i64 0, .int .i64 0, .int .i64 0, .slice none 0 0, .slice none 0 0, .int .i64 0, .int .i64 0, .int .i64 0, .slice none 0 0, .slice none 0 0, .slice none 0 0, .slice none 0 0, .string ⟨#[]⟩] 51 (0, 0))) := by show _ = _; rw [← hw1, ← hrb]; exact heap_alloc_new _ _
  obtain ⟨w2, hw2⟩ : ∃ w2, w1.alloc (.cells #[.slice a dV.length c, .int .i64 0] 78) = w2 := ⟨_, rfl⟩
  have HW2 : Hid (w1.alloc (.cells #[.slice a dV.length c, .int .i64 0] 78) = w2) := hw2
  have hb2 : Below w1.heap.size w1 w2 := by rw [← hw2]; exact (Below.refl _ _).alloc (Nat.le_refl _) _
  have HB2 : Hid (Below w.heap.size w w2) := xtransN HB1.out hb2
  have HS2 : Hid (w2.heap.size = rb + 2) := by show _ = _; rw [← hw2]; simp [HS1.out]
  have HX2 : Hid (w2.heap[rb]? = some (.cells #[.int .i64 0, .int .i64 0, .int .i64 0, .int .i64 0, .int .i64 0, .int .i64 0, .int .i64 0, .int .i64 0, .int .i64 0, .int .i64 0, .int .i64 0, .slice none 0 0, .slice none 0 0, .int .i64 0, .int .i64 0, .int .i64 0, .slice none 0 0, .slice none 0 0, .slice none 0 0, .slice none 0 0, .string ⟨#[]⟩] 51 (0, 0))) := kept_block hb2 HX1.out
  have HR2 : Hid (RdS 78 w2 w2 (rb + 1) a c dV 0) := ⟨by rw [← hw2]; exact heap_new' HS1.out, Chg.refl _ _, Nat.zero_le _⟩
  have HC : Hid (RdC w2 (rb + 1) a c dV) := ⟨hx.below HB2.out, (fun z hz => by simp only [dV, List.mem_cons, List.not_mem_nil, or_false] at hz; omega), by decide, hc, hcm, fun hz b o e => by have := hlt b o e; omega, by rw [HS2.out]; omega⟩
  have HKB : Hid (∀ w', Below w.heap.size w w' → KfAt w') := hKb
  have HG : Hid (Ground w) := hg
  have HND : Hid _ := rd_number w2 (rb + 1) a c dV 0 w2 HC.out HR2.out
  have c1 : w1.cell? ⟨bd, 0, none⟩ = some (.slice a dV.length c) := cells_1 (kept_block HB1.out hb)
  obtain ⟨n4, hn4⟩ : ∃ n4, dV.length = n4 := ⟨_, rfl⟩
  clear hw1 hw2 hb2 hx hc hcm hlt hKb hg hb hrb hn4
  go_enter Tryz.func63, Tryz.ntmps63
  go_upto_region 1 with fail
  rw [HW1.out]
  go_upto_region 2 with fail
  rw [HW2.out, HRB.out, HS1.out]
  clear c0 c1
  go_upto_region 3 with (first
    | (go_at_call 64; refine Calls.mono HND.out ?_
       rintro e w3 (⟨k0, q1, rfl, hgk, hsd, hr, hch, _⟩ | ⟨rfl, hno, hch⟩)
       rotate_left
       · exact (hno 22 _ (by decide) (by rw [List.drop_zero]; exact dV_is)).elim
       obtain ⟨hk0, hq⟩ := nm_pre hgk (show inN 22 by decide) (hsd.1.symm.trans (by rw [List.drop_zero]; exact dV_is))
       subst hk0
       have HR3 : Hid (RdS 78 w2 w3 (rb + 1) a c dV q1) := hr
       have HQ3 : Hid (dV.drop q1 = nmL 3 ++ (nmL 2 ++ nmL 1)) := hq
       have HB3 : Hid (Below w.heap.size w w3) := HB2.out.trans (hch.below (by have := HS2.out; have := HRB.out; omega) (fun k _ e => by have := HRB.out; omega))
       have HX3 : Hid (w3.heap[rb]? = some (.cells #[.int .i64 0, .int .i64 0, .int .i64 0, .int .i64 0, .int .i64 0, .int .i64 0, .int .i64 0, .int .i64 0, .int .i64 0, .int .i64 0, .int .i64 0, .slice none 0 0, .slice none 0 0, .int .i64 0, .int .i64 0, .int .i64 0, .slice none 0 0, .slice none 0 0, .slice none 0 0, .slice none 0 0, .string ⟨#[]⟩] 51 (0, 0))) := by show _ = _; rw [hch.block rb (lt_of_blk HX2.out) (by omega)]; exact HX2.out
       have HZ3 : Hid (w2.heap.size ≤ w3.heap.size) := hch.size
       clear hgk hsd hr hch hq)
    | (refine wpList_store_row rfl 51 _ _ rfl w3.heap.size #[.int .i64 22, .int .i64 0, .int .i64 0, .int .i64 0, .int .i64 0, .int .i64 0, .int .i64 0, .int .i64 0, .int .i64 0, .int .i64 0, .int .i64 0, .slice none 0 0, .slice none 0 0, .int .i64 0, .int .i64 0, .int .i64 0, .slice none 0 0, .slice none 0 0, .slice none 0 0, .slice none 0 0, .string ⟨#[]⟩] rfl rfl 51 _ (heap_alloc_new _ _) (by kernel_rfl) rfl (by first | kernel_rfl | (simp; rfl)) ?_)
    | fail)
  obtain ⟨w4, hw4⟩ : ∃ w4, (w3.alloc (.cells #[.int .i64 0, .int .i64 0, .int .i64 0, .int .i64 0, .int .i64 0, .int .i64 0, .int .i64 0, .int .i64 0, .int .i64 0, .int .i64 0, .int .i64 0, .slice none 0 0, .slice none 0 0, .int .i64 0, .int .i64 0, .int .i64 0, .slice none 0 0, .slice none 0 0, .slice none 0 0, .slice none 0 0, .string ⟨#[]⟩] 51)).setRow w3.heap.size #[.int .i64 22, .int .i64 0, .int .i64 0, .int .i64 0, .int .i64 0, .int .i64 0, .int .i64 0, .int .i64 0, .int .i64 0, .int .i64 0, .int .i64 0, .slice none 0 0, .slice none 0 0, .int .i64 0, .int .i64 0, .int .i64 0, .slice none 0 0, .slice none 0 0, .slice none 0 0, .slice none 0 0, .string ⟨#[]⟩] = w4 := ⟨_, rfl⟩
  have hy4 : (w3.alloc (.cells #[.int .i64 0, .int .i64 0, .int .i64 0, .int .i64 0, .int .i64 0, .int .i64 0, .int .i64 0, .int .i64 0, .int .i64 0, .int .i64 0, .int .i64 0, .slice none 0 0, .slice none 0 0, .int .i64 0, .int .i64 0, .int .i64 0, .slice none 0 0, .slice none 0 0, .slice none 0 0, .slice none 0 0, .string ⟨#[]⟩] 51)).heap[w3.heap.size]? = some (.cells #[.int .i64 0, .int .i64 0, .int .i64 0, .int .i64 0, .int .i64 0, .int .i64 0, .int .i64 0, .int .i64 0, .int .i64 0, .int .i64 0, .int .i64 0, .slice none 0 0, .slice none 0 0, .int .i64 0, .int .i64 0, .int .i64 0, .slice none 0 0, .slice none 0 0, .slice none 0 0, .slice none 0 0, .string ⟨#[]⟩] 51 (0, 0)) := heap_alloc_new _ _
  obtain ⟨nb, hnb⟩ : ∃ nb, w3.heap.size = nb := ⟨_, rfl⟩
  have HN4 : Hid (NB w4 nb kNo) := by show w4.heap[nb]? = some (.cells #[.int .i64 22, .int .i64 0, .int .i64 0, .int .i64 0, .int .i64 0, .int .i64 0, .int .i64 0, .int .i64 0, .int .i64 0, .int .i64 0, .int .i64 0, .slice none 0 0, .slice none 0 0, .int .i64 0, .int .i64 0, .int .i64 0, .slice none 0 0, .slice none 0 0, .slice none 0 0, .slice none 0 0, .string ⟨#[]⟩] 51 (0, 0)); rw [← hw4, ← hnb]; exact row_setA hy4
  have hb34 : Below w3.heap.size w3 w4 := by rw [← hw4]; exact ((Below.refl _ _).alloc (Nat.le_refl _) _).trans ((row_chgA hy4).below (by simp) (fun k _ e => by omega))
  have HR4 : Hid (RdS 78 w2 w4 (rb + 1) a c dV q1) := HR3.out.ext hb34
  have HB4 : Hid (Below w.heap.size w w4) := xtransN HB3.out hb34
  have HX4 : Hid (w4.heap[rb]? = some (.cells #[.int .i64 0, .int .i64 0, .int .i64 0, .int .i64 0, .int .i64 0, .int .i64 0, .int .i64 0, .int .i64 0, .int .i64 0, .int .i64 0, .int .i64 0, .slice none 0 0, .slice none 0 0, .int .i64 0, .int .i64 0, .int .i64 0, .slice none 0 0, .slice none 0 0, .slice none 0 0, .slice none 0 0, .string ⟨#[]⟩] 51 (0, 0))) := kept_block hb34 HX3.out
  have HNB : Hid (w2.heap.size ≤ nb) := by show _ ≤ _; rw [← hnb]; exact HZ3.out
  rw [hw4, hnb]
  clear hw4 hy4 hnb hb34
  have hc := HN4.out.cell (i := 0) (v := .int .i64 22) rfl
  have HFO : Hid _ := fieldsOf_any 22 (kfT[22]'(by decide)) (by decide) (by decide) rfl w4 (HKB.out w4 HB4.out) (fun w' hb => HKB.out w' (xtransN HB4.out hb))
  go_upto_region 4 with (first
    | (go_at_call 41; refine Calls.mono HFO.out ?_; rintro e w5 ⟨v, X, rfl, ⟨xa, xc, rfl⟩, ho, hm, hck, hb⟩
       have hm' := hm.trans vw_fields
       obtain ⟨x, rfl⟩ : ∃ x, X = [x] := by
         have := congrArg List.length hm'
         simp only [List.length_map, List.length_cons, List.length_nil] at this
         exact List.length_eq_one_iff.1 this
       have HXN : Hid (x.1.nm = nmVw ∧ x.2.1 = (fun N => nums [N.num, N.pri, N.bak]) ∧ x.2.2 = (fun N => { N with num := 0, pri := 0, bak := 0 })) := by
         have h1 := (List.cons.inj hm').1
         have h2 := Option.some.inj h1
         exact ⟨congrArg (fun t => t.1) h2, congrArg (fun t => t.2.1) h2, congrArg (fun t => t.2.2) h2⟩
       have HB5 : Hid (Below w4.heap.size w4 w5) := hb
       have HV5 : Hid (VwSh w5 x.1) := (hck x (by simp)).vw HXN.out.1
       have HO5 : Hid (w5.ownsRow w4.heap.size 148 5 (.slice xa 1 xc) 1 (fCs [x])) := ho
       clear hm hm' hck ho hb hc)
    | fail)
  have HN5 : Hid (NB w5 nb kNo) := kept_block HB5.out HN4.out
  have HR5 : Hid (RdS 78 w2 w5 (rb + 1) a c dV q1) := HR4.out.ext HB5.out
  have HX5 : Hid (w5.heap[rb]? = some (.cells #[.int .i64 0, .int .i64 0, .int .i64 0, .int .i64 0, .int .i64 0, .int .i64 0, .int .i64 0, .int .i64 0, .int .i64 0, .int .i64 0, .int .i64 0, .slice none 0 0, .slice none 0 0, .int .i64 0, .int .i64 0, .int .i64 0, .slice none 0 0, .slice none 0 0, .slice none 0 0, .slice none 0 0, .string ⟨#[]⟩] 51 (0, 0))) := kept_block HB5.out HX4.out
  have HRC5 : Hid (RowC w5 xa 5 [x.1.cl]) := ownsC (L := [x]) (f := fun x : FieldT => x.1.cl) (k := 5) (fun x => rfl) (show 1 ≤ maxLen by decide) HO5.out rfl
  have HRF : Hid _ := rf_view (rb + 1) nb a c dV q1 kNo xa xc x w2 w5 HC.out HR5.out HN5.out HNB.out HRC5.out HV5.out
  go_upto_region 5 with (first
    | (go_at_call 65; refine Calls.mono HRF.out ?_
       rintro e w6 (⟨⟨z1, z2, z3⟩, q2, rfl, hg, hsd, hr, hnbk, hch⟩ | ⟨rfl, hno, hch⟩)
       rotate_left
       · exact (hno (3, 2, 1) [] ⟨by decide, by decide, by decide⟩ (by rw [HQ3.out, List.append_nil])).elim
       have hq := hsd.1.symm.trans HQ3.out
       unfold vwL at hq
       simp only [List.append_assoc] at hq
       obtain ⟨hz1, hqa⟩ := nm_pre hg.1 (show inN 3 by decide) hq
       obtain ⟨hz2, hqb⟩ := nm_pre hg.2.1 (show inN 2 by decide) hqa
       obtain ⟨hz3, hqc⟩ := nm_pre (r := dV.drop q2) (s := []) hg.2.2 (show inN 1 by decide) (by rw [List.append_nil]; exact hqb)
       clear hq hqa hqb
       simp only at hz1 hz2 hz3
       subst hz1; subst hz2; subst hz3
       have HQ6 : Hid (q2 = dV.length) := by
         show _ = _
         have h1 := congrArg List.length hqc
         rw [List.length_drop] at h1
         have h2 := hsd.2.2
         simp only [List.length_nil] at h1
         omega
       have HR6 : Hid (RdS 78 w2 w6 (rb + 1) a c dV q2) := hr
       have HN6 : Hid (NB w6 nb vNo) := hnbk
       have HCH6 : Hid (Chg w5 w6 (fun j => j = rb + 1 ∨ j = nb)) := hch
       clear hg hsd hr hnbk hch hqc)
    | fail)
  have HB46 : Hid (Below w.heap.size w w6) := (xtransN HB4.out HB5.out).trans (HCH6.out.below (by have := HB5.out.size; have := HB4.out.size; omega) (fun k _ e => by have := HRB.out; have := HNB.out; have := HS2.out; omega))
  have HX6 : Hid (w6.heap[rb]? = some (.cells #[.int .i64 0, .int .i64 0, .int .i64 0, .int .i64 0, .int .i64 0, .int .i64 0, .int .i64 0, .int .i64 0, .int .i64 0, .int .i64 0, .int .i64 0, .slice none 0 0, .slice none 0 0, .int .i64 0, .int .i64 0, .int .i64 0, .slice none 0 0, .slice none 0 0, .slice none 0 0, .slice none 0 0, .string ⟨#[]⟩] 51 (0, 0))) := by show _ = _; rw [HCH6.out.block rb (lt_of_blk HX5.out) (by have := HNB.out; have := HS2.out; omega)]; exact HX5.out
  have HND6 : Hid _ := rd_end w2 (rb + 1) a c dV q2 w6 HR6.out
  go_upto_region 6 with (first
    | (go_at_call 33; refine Calls.mono HND6.out ?_
       rintro e w7 ⟨⟨rfl, hq⟩ | ⟨rfl, hq⟩, hch⟩
       rotate_left
       · exact (hq HQ6.out).elim
       have HCH7 : Hid (Chg w6 w7 (fun j => j = rb + 1)) := hch
       clear hch hq)
    | fail)
  have HN7 : Hid (NB w7 nb vNo) := by show _ = _; rw [HCH7.out.block nb (lt_of_blk HN6.out) (by have := HNB.out; have := HS2.out; omega)]; exact HN6.out
  have HX7 : Hid (w7.heap[rb]? = some (.cells #[.int .i64 0, .int .i64 0, .int .i64 0, .int .i64 0, .int .i64 0, .int .i64 0, .int .i64 0, .int .i64 0, .int .i64 0, .int .i64 0, .int .i64 0, .slice none 0 0, .slice none 0 0, .int .i64 0, .int .i64 0, .int .i64 0, .slice none 0 0, .slice none 0 0, .slice none 0 0, .slice none 0 0, .string ⟨#[]⟩] 51 (0, 0))) := by show _ = _; rw [HCH7.out.block rb (lt_of_blk HX6.out) (by omega)]; exact HX6.out
  have HB7 : Hid (Below w.heap.size w w7) := HB46.out.trans (HCH7.out.below (by have := HB46.out.size; omega) (fun k _ e => by have := HRB.out; omega))
  have HCH57 : Hid (Chg w5 w7 (fun j => j = rb + 1 ∨ j = nb)) := HCH6.out.trans (HCH7.out.mono (fun _ _ e => .inl e))
  have HV7 : Hid (VwSh w7 x.1) := HV5.out.chg HCH57.out (fun s F hs e => by
    rcases e with e | e
    · subst e
      have h1 := (cells_2 HR5.out.box).1
      rw [hs] at h1
      cases h1
    · subst e
      have h1 := HN5.out.cell (i := 0) (v := .int .i64 22) rfl
      rw [hs] at h1
      cases h1)
  have HRC7 : Hid (RowC w7 xa 5 [x.1.cl]) := by
    refine HRC5.out.chg HCH57.out (fun g o e he => ?_)
    obtain ⟨a', c', e', _, _, hlo⟩ := owns_sl HO5.out
    injection e' with e1 e2 e3
    have h1 := (hlo g o (by rw [← e1]; exact e)).1
    have h2 := lt_of_blk HN4.out
    have h3 := HNB.out
    have h4 := HS2.out
    have h5 := HR4.out.chg.size
    omega
  have HCKN : Hid (Calls Tryz.prog 40 #[.pointer (some ⟨nb, 0, none⟩), .slice xa 1 xc] w7 fun e w' => e = .returned (.tuple #[]) ∧ Below w7.heap.size w7 w') := by
    refine Calls.mono (note_ck nb vNo xa xc [x] w7 HN7.out (zNo_at _ _ rfl rfl rfl rfl rfl rfl) (HG.out.below HB7.out) HRC7.out (fun y hy => ?_)) ?_
    · obtain rfl := List.mem_singleton.1 hy
      rw [HXN.out.2.1, HXN.out.2.2]
      exact HV7.out.ck
    · rintro e w' ⟨⟨rfl, h⟩ | ⟨rfl, h⟩, hb⟩
      · exact ⟨rfl, hb⟩
      · refine (h ⟨fun y hy => ?_, ?_⟩).elim
        · obtain rfl := List.mem_singleton.1 hy
          rw [HXN.out.2.1]
          intro n hn
          simp at hn
          rcases hn with rfl | rfl | rfl <;> decide
        · show BareN (x.2.2 vNo)
          rw [HXN.out.2.2]
          exact ⟨rfl, rfl, rfl, rfl, rfl, rfl, rfl, rfl, rfl, rfl, rfl, rfl, ⟨rfl, rfl, rfl, rfl⟩, rfl, rfl, rfl, rfl⟩
  go_upto_region 7 with (first
    | (go_at_call 40; refine Calls.mono HCKN.out ?_; rintro e w8 ⟨rfl, hb8⟩
       have HN8 : Hid (NB w8 nb vNo) := kept_block hb8 HN7.out
       have HX8 : Hid (w8.heap[rb]? = some (.cells #[.int .i64 0, .int .i64 0, .int .i64 0, .int .i64 0, .int .i64 0, .int .i64 0, .int .i64 0, .int .i64 0, .int .i64 0, .int .i64 0, .int .i64 0, .slice none 0 0, .slice none 0 0, .int .i64 0, .int .i64 0, .int .i64 0, .slice none 0 0, .slice none 0 0, .slice none 0 0, .slice none 0 0, .string ⟨#[]⟩] 51 (0, 0))) := kept_block hb8 HX7.out
       have HB8 : Hid (Below w.heap.size w w8) := xtransN HB7.out hb8
       clear hb8)
    | fail)
  have HRG : Hid (w8.rangeAt nb 0 vNo.cl) := fun j v hv => by rw [Nat.zero_add]; exact HN8.out.cell hv
  go_wp2_with (first
    | (refine wpList_load_mid rfl 51 _ rfl nb 0 rfl vNo.cl _ HRG.out Tryz.underlying51 rfl (by kernel_rfl) ?_)
    | (refine wpList_store_row rfl 51 _ _ rfl rb #[.int .i64 22, .int .i64 3, .int .i64 2, .int .i64 1, .int .i64 0, .int .i64 0, .int .i64 0, .int .i64 0, .int .i64 0, .int .i64 0, .int .i64 0, .slice none 0 0, .slice none 0 0, .int .i64 0, .int .i64 0, .int .i64 0, .slice none 0 0, .slice none 0 0, .slice none 0 0, .slice none 0 0, .string ⟨#[]⟩] rfl rfl 51 _ HX8.out (by kernel_rfl) rfl (by first | kernel_rfl | (simp; rfl)) ?_)
    | fail)
  refine bodyPost_ret (results_cell1 rfl _ _ rb 51 _ (0, 0) _ rfl (row_setA HX8.out) Tryz.underlying51 rfl (by kernel_rfl)) rfl ?_
  exact ⟨.inl ⟨_, rfl, rfl, by first | kernel_rfl | (simp; rfl), rfl⟩, HB8.out.trans ((row_chgA HX8.out).below (by have := HB8.out.size; omega) (fun k _ e => by have := HRB.out; omega))⟩
end Go.Proofs.YtdjfeomdiljaeaaGreatDoor
