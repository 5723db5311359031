/-
  shot: what the writer writes of a shot.
-/
import Derived.Test.YtkmiemjjedbnaaaDoorEWrite
namespace Go.Proofs.YtkmiemjjedbnaaaDoor
open Go.RowKit
set_option linter.unusedVariables false
set_option linter.unusedSimpArgs false

def seenL (s : SeenT) : List Int := textL s.p ++ (textL s.d ++ numL s.v.toNat)
def seensL (l : List SeenT) : List Int := (l.map seenL).flatten
def shotL (st : Int) (p : ByteArray) (k : Int) (l : List SeenT) : List Int := numL st.toNat ++ (textL p ++ (numL k.toNat ++ (numL l.length ++ seensL l)))
/-- Numbers and texts that no put refuses. -/
structure EOk (st : Int) (p : ByteArray) (k : Int) (l : List SeenT) : Prop where
  st : 0 ≤ st ∧ st ≤ 2147483647
  p : p.size ≤ 1000
  k : 0 ≤ k ∧ k ≤ 2147483647
  len : l.length ≤ 64
  each : ∀ s ∈ l, s.p.size ≤ 1000 ∧ s.d.size ≤ 1000 ∧ 0 ≤ s.v ∧ s.v ≤ 2147483647
theorem num_le (n : Nat) (h : n ≤ 2147483647) : (numL n).length ≤ 5 := (numL_len 5 (Nat.lt_of_le_of_lt h (by decide)) (by decide)).1
theorem text_le (t : ByteArray) (h : t.size ≤ 1000) : (textL t).length ≤ 1005 := by
  unfold textL
  rw [if_pos (by omega), List.length_append, strL_len]
  have := num_le t.size (by omega)
  omega
theorem seensL_take {l : List SeenT} {q : Nat} {s : SeenT} (h : l[q]? = some s) : seensL (l.take (q + 1)) = seensL (l.take q) ++ seenL s := by
  unfold seensL
  rw [take_snoc h, List.map_append, List.flatten_append]
  simp
theorem seensL_le (l : List SeenT) (h : ∀ s ∈ l, s.p.size ≤ 1000 ∧ s.d.size ≤ 1000 ∧ 0 ≤ s.v ∧ s.v ≤ 2147483647) : (seensL l).length ≤ l.length * 2015 := by
  induction l with
  | nil => exact Nat.le_refl _
  | cons s t ih =>
    have h1 := h s (.head _)
    have h2 := ih (fun x hx => h x (.tail _ hx))
    have e : seensL (s :: t) = seenL s ++ seensL t := by simp [seensL]
    rw [e, List.length_append, List.length_cons]
    have h3 : (seenL s).length ≤ 2015 := by
      unfold seenL
      rw [List.length_append, List.length_append]
      have a1 := text_le s.p h1.1
      have a2 := text_le s.d h1.2.1
      have a3 := num_le s.v.toNat (by omega)
      omega
    omega
theorem Ss.chg {w w' : World} {a : Option Addr} {l : List SeenT} {base : Nat} (h : Ss w a l) (hb : Below base w w') (hlo : l ≠ [] → ∀ b o, a = some ⟨b, o, none⟩ → b < base) : Ss w' a l := by
  by_cases hl : l = []
  · exact .inl hl
  rcases h with h | ⟨b, o, ha, hlt, hs⟩
  · exact .inl h
  · refine .inr ⟨b, o, ha, Nat.lt_of_lt_of_le hlt hb.size, fun i s hi j x hx => ?_⟩
    rw [hb.cell (p := ⟨b, _, none⟩) (hlo hl b o ha)]
    exact hs i s hi j x hx
/-- What stands while a shot is written. -/
structure WS (w0 : World) (base bw : Nat) (w : World) (A : Array Value) (v : Value) (xs : List Int) : Prop where
  wr : WrAt w base bw v xs
  pa : w.heap[w0.heap.size]? = some (.cells A 24 (0, 0))
  low : Below base w0 w
  hB : base ≤ w.heap.size
theorem keep_box {w w' : World} {base bw b : Nat} {v v' : Value} {xs : List Int} {cs : Array Value} {t : TypeId} (h : WrAt w base bw v xs) (hf : WrF w w' bw v v') (hb : w.heap[b]? = some (.cells cs t (0, 0))) (ht : t ≠ 5) (ht' : t ≠ 55) : w'.heap[b]? = some (.cells cs t (0, 0)) := by
  rw [hf.chg.block b (lt_of_blk hb) (fun e => ?_)]
  · exact hb
  · rcases e with e | e
    · rw [e, h.box] at hb
      injection hb with hb
      injection hb with _ h2 _
      exact ht' h2.symm
    · obtain ⟨cur, hc⟩ := owns_kind h.row e
      rw [hb] at hc
      injection hc with hc
      injection hc with _ h2 _
      exact ht h2
theorem WS.put {w0 w w' : World} {base bw : Nat} {A : Array Value} {v v' : Value} {xs xs' : List Int} (h : WS w0 base bw w A v xs) (h1 : WrAt w' base bw v' xs') (h2 : Below base w w') (h3 : WrF w w' bw v v') : WS w0 base bw w' A v' xs' :=
  ⟨h1, keep_box h.wr h3 h.pa (by decide) (by decide), h.low.trans h2, Nat.le_trans h.hB h2.size⟩
theorem WS.alloc {w0 w : World} {base bw : Nat} {A : Array Value} {v : Value} {xs : List Int} (h : WS w0 base bw w A v xs) (o : Obj) : WS w0 base bw (w.alloc o) A v xs :=
  ⟨h.wr.below ((Below.refl _ _).alloc (Nat.le_refl _) _), new_old h.pa _, h.low.alloc h.hB _, by simp; have := h.hB; omega⟩
set_option maxHeartbeats 3200000 in
set_option maxRecDepth 100000 in
theorem wShot_any (base bw : Nat) (v : Value) (sn : Nat) (p : ByteArray) (kn : Nat) (a : Option Addr) (c n : Nat) (l : List SeenT) (w : World) (h : WrAt w base bw v []) (hB : base ≤ w.heap.size) (hs : Ss w a l) (hlo : l ≠ [] → ∀ b o, a = some ⟨b, o, none⟩ → b < base) (hok : EOk sn p kn l) (hn : l.length = n) :
    Calls Tryd.prog 22 #[.pointer (some ⟨bw, 0, none⟩), .agg (shA sn p kn a n c)] w fun e w' => ∃ v', e = .returned (.tuple #[]) ∧ WrAt w' base bw v' (shotL sn p kn l) ∧ Below base w w' := by
  have HS : Hid (Ss w a l) := hs
  have HLO : Hid (l ≠ [] → ∀ b o, a = some ⟨b, o, none⟩ → b < base) := hlo
  have HOK : Hid (EOk sn p kn l) := hok
  have HN : Hid (l.length = n) := hn
  have hn64 : n ≤ 64 := by rw [← hn]; exact hok.len
  have hsn : sn ≤ 2147483647 := by have := hok.st; omega
  have hkn : kn ≤ 2147483647 := by have := hok.k; omega
  have hp : p.size ≤ 1000 := hok.p
  have H0 : Hid (WS w base bw (w.alloc (.cells (shA sn p kn a n c) 24)) (shA sn p kn a n c) v []) := ⟨h.below ((Below.refl _ _).alloc (Nat.le_refl _) _), heap_alloc_new _ _, (Below.refl _ _).alloc hB _, by simp; omega⟩
  clear h hs hlo hn hok
  go_enter Tryd.func22, Tryd.ntmps22
  go_wp2_with fail
  refine (wNumber_any base bw v [] sn _ H0.out.wr hsn (by simp) H0.out.hB).mono ?_
  rintro e w1 ⟨v1, rfl, hw1, hb1, hf1⟩
  have H1 : Hid (WS w base bw w1 (shA sn p kn a n c) v1 (numL sn)) := H0.out.put hw1 hb1 hf1
  obtain ⟨a0, a1, a2, a3⟩ := cells_4 H1.out.pa
  clear hw1 hb1 hf1
  go_wp2_with fail
  refine (wText_any base bw v1 (numL sn) p _ H1.out.wr hp (by have := num_le sn hsn; omega) H1.out.hB).mono ?_
  rintro e w2 ⟨v2, rfl, hw2, hb2, hf2⟩
  have H2 : Hid (WS w base bw w2 (shA sn p kn a n c) v2 (numL sn ++ textL p)) := H1.out.put hw2 hb2 hf2
  clear hw2 hb2 hf2 a0 a1 a2 a3
  obtain ⟨a0, a1, a2, a3⟩ := cells_4 H2.out.pa
  go_wp2_with fail
  refine (wNumber_any base bw v2 (numL sn ++ textL p) kn _ H2.out.wr hkn (by have := num_le sn hsn; have := text_le p hp; rw [List.length_append]; omega) H2.out.hB).mono ?_
  rintro e w3 ⟨v3, rfl, hw3, hb3, hf3⟩
  have H3 : Hid (WS w base bw w3 (shA sn p kn a n c) v3 ((numL sn ++ textL p) ++ numL kn)) := H2.out.put hw3 hb3 hf3
  clear hw3 hb3 hf3 a0 a1 a2 a3
  obtain ⟨a0, a1, a2, a3⟩ := cells_4 H3.out.pa
  go_wp2_with fail
  refine (wNumber_any base bw v3 ((numL sn ++ textL p) ++ numL kn) n _ H3.out.wr (by omega) (by have := num_le sn hsn; have := text_le p hp; have := num_le kn hkn; rw [List.length_append, List.length_append]; omega) H3.out.hB).mono ?_
  rintro e w4 ⟨v4, rfl, hw4, hb4, hf4⟩
  obtain ⟨pre, hpre⟩ : ∃ pre, ((numL sn ++ textL p) ++ numL kn) ++ numL n = pre := ⟨_, rfl⟩
  have HPL : Hid (pre.length ≤ 1020) := by
    show _ ≤ _
    rw [← hpre]
    have := num_le sn hsn; have := text_le p hp; have := num_le kn hkn; have := num_le n (by omega)
    rw [List.length_append, List.length_append, List.length_append]; omega
  have HPR : Hid (pre ++ seensL l = shotL sn p kn l) := by
    show _ = _
    rw [← hpre]
    unfold shotL
    rw [Int.toNat_natCast, Int.toNat_natCast, HN.out]
    simp only [List.append_assoc]
  rw [hpre] at hw4
  have H4 : Hid (WS w base bw w4 (shA sn p kn a n c) v4 pre) := H3.out.put hw4 hb4 hf4
  clear hw4 hb4 hf4 hpre a0 a1 a2 a3
  obtain ⟨a0, a1, a2, a3⟩ := cells_4 H4.out.pa
  go_wp2_with fail
  clear a0 a1 a2 a3
  go_loopw [26] (fun i wr => ∃ (q : Nat) (v' : Value), i = .int .i64 q ∧ q ≤ n ∧ Hid (WS w base bw wr (shA sn p kn a n c) v' (pre ++ seensL (l.take q)))) (fun i _ => n - (intOf i).toNat)
  case atStart => exact ⟨0, v4, rfl, Nat.zero_le _, by show WS _ _ _ _ _ _ _; simpa [seensL] using H4.out⟩
  case round =>
    obtain ⟨q, v', rfl, hq, HW⟩ := hrel
    by_cases hlt : q < n
    · have hlt' : (q : Int) < (n : Int) := by omega
      obtain ⟨x, hx⟩ : ∃ x, l[q]? = some x := ⟨l[q]'(by rw [HN.out]; exact hlt), List.getElem?_eq_getElem _⟩
      obtain ⟨b, o, rfl, hb, x0, x1, x2⟩ := (HS.out.chg HW.out.low HLO.out).at hx
      have HX : Hid (l[q]? = some x) := hx
      obtain ⟨e1, e2, e3, e4⟩ := HOK.out.each x (List.mem_of_getElem? hx)
      obtain ⟨xv, hxv⟩ : ∃ xv : Nat, x.v = xv := ⟨x.v.toNat, by omega⟩
      have HXV : Hid (x.v.toNat = xv) := by show _ = _; omega
      rw [hxv] at x2 e4
      have hxv4 : xv ≤ 2147483647 := by omega
      have HL : Hid ((seensL (l.take q)).length ≤ 64 * 2015) := by
        show _ ≤ _
        refine Nat.le_trans (seensL_le _ (fun s hs => HOK.out.each s (List.mem_of_mem_take hs))) ?_
        rw [List.length_take]
        have : min q l.length ≤ 64 := by omega
        exact Nat.mul_le_mul_right _ this
      clear hx hxv e3 e4
      have HN1 : Hid ((wr.alloc (.cells #[.string x.p, .string x.d, .int .i64 xv] 38)).heap[wr.heap.size]? = some (.cells #[.string x.p, .string x.d, .int .i64 xv] 38 (0, 0))) := heap_alloc_new _ _
      have HW1 : Hid (WS w base bw (wr.alloc (.cells #[.string x.p, .string x.d, .int .i64 xv] 38)) (shA sn p kn (some ⟨b, o, none⟩) n c) v' (pre ++ seensL (l.take q))) := HW.out.alloc _
      go_wp2_with fail
      clear x0 x1 x2
      refine (wText_any base bw v' (pre ++ seensL (l.take q)) x.p _ HW1.out.wr e1 (by have := HPL.out; have := HL.out; rw [List.length_append]; omega) HW1.out.hB).mono ?_
      rintro e w5 ⟨v5, rfl, hw5, hb5, hf5⟩
      have HN5 : Hid (w5.heap[wr.heap.size]? = some (.cells #[.string x.p, .string x.d, .int .i64 xv] 38 (0, 0))) := keep_box HW1.out.wr hf5 HN1.out (by decide) (by decide)
      have H5 : Hid (WS w base bw w5 (shA sn p kn (some ⟨b, o, none⟩) n c) v5 ((pre ++ seensL (l.take q)) ++ textL x.p)) := HW1.out.put hw5 hb5 hf5
      clear hw5 hb5 hf5
      obtain ⟨x0, x1, x2⟩ := cells_3 HN5.out
      go_wp2_with fail
      refine (wText_any base bw v5 ((pre ++ seensL (l.take q)) ++ textL x.p) x.d _ H5.out.wr e2 (by have := HPL.out; have := HL.out; have := text_le x.p e1; rw [List.length_append, List.length_append]; omega) H5.out.hB).mono ?_
      rintro e w6 ⟨v6, rfl, hw6, hb6, hf6⟩
      have HN6 : Hid (w6.heap[wr.heap.size]? = some (.cells #[.string x.p, .string x.d, .int .i64 xv] 38 (0, 0))) := keep_box H5.out.wr hf6 HN5.out (by decide) (by decide)
      have H6 : Hid (WS w base bw w6 (shA sn p kn (some ⟨b, o, none⟩) n c) v6 (((pre ++ seensL (l.take q)) ++ textL x.p) ++ textL x.d)) := H5.out.put hw6 hb6 hf6
      clear hw6 hb6 hf6 x0 x1 x2
      obtain ⟨x0, x1, x2⟩ := cells_3 HN6.out
      go_wp2_with fail
      refine (wNumber_any base bw v6 (((pre ++ seensL (l.take q)) ++ textL x.p) ++ textL x.d) xv _ H6.out.wr hxv4 (by have := HPL.out; have := HL.out; have := text_le x.p e1; have := text_le x.d e2; rw [List.length_append, List.length_append, List.length_append]; omega) H6.out.hB).mono ?_
      rintro e w7 ⟨v7, rfl, hw7, hb7, hf7⟩
      have H7 : Hid (WS w base bw w7 (shA sn p kn (some ⟨b, o, none⟩) n c) v7 (pre ++ seensL (l.take (q + 1)))) := by
        have := H6.out.put hw7 hb7 hf7
        show WS _ _ _ _ _ _ _
        rw [seensL_take HX.out]
        unfold seenL
        rw [HXV.out]
        simpa only [List.append_assoc] using this
      clear hw7 hb7 hf7 x0 x1 x2
      go_wp2_with fail
      go_roundw
      case rel => exact ⟨q + 1, v7, by go_num, by omega, H7⟩
      case measure => simp [intOf]; omega
    · obtain rfl : q = n := by omega
      have hge : ¬ (q : Int) < (q : Int) := by omega
      have H9 : Hid (WS w base bw wr (shA sn p kn a q c) v' (shotL sn p kn l)) := by
        have := HW.out
        rw [← HN.out, List.take_length, HPR.out] at this
        rw [← HN.out]
        exact this
      go_wp2_with fail
      exact bodyPost_end (results_none rfl _ _ _) rfl ⟨rfl, ⟨v', H9.out.wr⟩, H9.out.low⟩
end Go.Proofs.YtkmiemjjedbnaaaDoor
