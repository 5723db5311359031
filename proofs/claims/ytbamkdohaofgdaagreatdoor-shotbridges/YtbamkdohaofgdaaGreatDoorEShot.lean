import Derived.Test.YtbamkdohaofgdaaGreatDoorCCheck
import Derived.Test.YtbamkdohaofgdaaGreatDoorWText
import Derived.Test.YtbamkdohaofgdaaGreatDoorSTurned
import Derived.Test.YtbamkdohaofgdaaGreatDoorEShotD
namespace Go.Proofs.YtbamkdohaofgdaaGreatDoor.W
open Go.RowKit
set_option linter.unusedVariables false
set_option linter.unusedSimpArgs false

theorem wpList_appB {w : World} {ops : Array Oper} {rest : List Oper} {o : Oper} {act : Act} {Q : Exit → Act → World → Prop} (hgd : o.guard = none) (s x : Operand)
    (ho : o.op = .call { callee := .builtin .append, args := #[s, x], argTypes := #[47, 47] }) (base : Nat) (v : Value) (xs : List Int) (hs : act.eval s = v) (hown : w.ownsRow base 5 1 v xs.length (bv xs))
    (ad : Option Addr) (m c : Nat) (ys : List Int) (hx : act.eval x = .slice ad m c) (hm : m = ys.length) (hby : Bys w ad ys) (hn : ad = none → c = 0) (hlen : xs.length + ys.length ≤ 10000000) (hB : base ≤ w.heap.size)
    (h : ∀ v' w', w'.ownsRow base 5 1 v' (xs ++ ys).length (bv (xs ++ ys)) → w.grownBy w' v.ownBlock → (v'.ownBlock = v.ownBlock ∨ v'.ownBlock = some w.heap.size) → wpList Tryz.prog ops Q rest (act.put o.dst v') w') : wpList Tryz.prog ops Q (o :: rest) act w := by
  obtain ⟨i0, hi, hz0, hz1, hz2⟩ := info_parts Tryz.info5
  subst hm
  cases ad with
  | none =>
    have hc0 := hn rfl
    subst hc0
    have hys : ys = [] := by
      rcases hby with h | ⟨b, o, h, _⟩
      · exact h
      · cases h
    subst hys
    refine wpList_append_own_none hgd s x 47 ho base 5 i0 1 Tryz.underlying47 hi _ _ _ hs hown hx ?_
    have := h v w (by rw [List.append_nil]; exact hown) ⟨rfl, rfl, rfl, Nat.le_refl _, fun _ _ _ => rfl⟩ (.inl rfl)
    exact this
  | some ad =>
    refine wpList_append_own_at _ hgd s x 47 ho base 5 i0 (.int .u8 0) 1 1 Tryz.underlying47 hi hz0 hz1 hz2 rfl (by decide) v xs.length (bv xs) hs hown ad ys.length c (bv ys) hx (by rw [bv_len, Nat.mul_one]) (cells_at hby) (bv_one _) (by unfold maxLen; omega) (by omega) hB ?_
    intro v' w' ho' hg' _ hat'
    exact h v' w' (by rw [List.length_append, bv_append]; exact ho') hg' hat'
/-- A writer that has these bytes. -/
structure WrAt (w : World) (base bw : Nat) (v : Value) (xs : List Int) : Prop where
  box : w.heap[bw]? = some (.cells #[v] 83 (0, 0))
  row : w.ownsRow base 5 1 v xs.length (bv xs)
  lo : base ≤ bw
/-- What a put leaves as it was. -/
structure WrF (w w' : World) (bw : Nat) (v v' : Value) : Prop where
  chg : Chg w w' (fun k => k = bw ∨ v.ownBlock = some k)
  own : ∀ k, v'.ownBlock = some k → v.ownBlock = some k ∨ w.heap.size ≤ k
theorem WrF.trans {w w1 w2 : World} {bw : Nat} {v v1 v2 : Value} (h : WrF w w1 bw v v1) (k : WrF w1 w2 bw v1 v2) : WrF w w2 bw v v2 := by
  refine ⟨⟨k.chg.os.trans h.chg.os, k.chg.tape.trans h.chg.tape, k.chg.output.trans h.chg.output, Nat.le_trans h.chg.size k.chg.size, fun j hj hn => ?_⟩, fun j hj => ?_⟩
  · rw [k.chg.block j (Nat.lt_of_lt_of_le hj h.chg.size) (fun e => ?_), h.chg.block j hj hn]
    rcases e with e | e
    · exact hn (.inl e)
    · rcases h.own j e with e | e
      · exact hn (.inr e)
      · omega
  · rcases k.own j hj with e | e
    · exact h.own j e
    · exact .inr (Nat.le_trans h.chg.size e)
theorem WrF.of_below {w w1 : World} {bw : Nat} {v : Value} (h : Below w.heap.size w w1) : WrF w w1 bw v v := ⟨Chg.of_below h _, fun k hk => .inl hk⟩
set_option maxHeartbeats 1600000 in
set_option maxRecDepth 100000 in
theorem put_any (base bw : Nat) (v : Value) (xs zs : List Int) (a : Option Addr) (c : Nat) (e0 : Int) (w : World) (h : WrAt w base bw v xs) (hz : Bys w a zs) (hn : a = none → c = 0) (hl : xs.length + zs.length ≤ 10000000) (hB : base ≤ w.heap.size) :
    Calls Tryz.prog 85 #[.pointer (some ⟨bw, 0, none⟩), .slice a zs.length c, .int .i64 e0] w fun e w' => ∃ v', e = .returned (.tuple #[]) ∧ WrAt w' base bw v' (xs ++ zs) ∧ Below base w w' ∧ WrF w w' bw v v' := by
  have HB : Hid (WrAt w base bw v xs) := h
  have HZ : Hid (Bys w a zs) := hz
  have b0 := cells_1 h.box
  clear h hz
  go_enter Tryz.func85, Tryz.ntmps85
  go_wp2_with (first
    | (at_builtin; refine wpList_appB rfl _ _ rfl base v xs rfl HB.out.row a zs.length c zs rfl rfl HZ.out hn hl hB ?_
       intro v1 w1 ho1 hg1 hat1
       have HF1 : Hid (WrF w w1 bw v v1) := ⟨(Chg.grown hg1).mono (fun _ _ e => .inr e), fun k hk => by
         rcases hat1 with e | e
         · rw [e] at hk; exact .inl hk
         · rw [e] at hk; cases hk; exact .inr (Nat.le_refl _)⟩
       have HO1 : Hid (w1.ownsRow base 5 1 v1 (xs ++ zs).length (bv (xs ++ zs))) := ho1
       have HX1 : Hid (w1.heap[bw]? = some (.cells #[v] 83 (0, 0))) := by
         show _ = _
         rw [hg1.block bw (lt_of_blk HB.out.box) (fun e => by
           obtain ⟨cur, hc⟩ := owns_kind HB.out.row e.symm
           rw [HB.out.box] at hc
           cases hc)]
         exact HB.out.box
       have HW1 : Hid (Below base w w1) := (Below.refl _ _).grown hg1 hB (fun j hj => (HB.out.row.lt j hj).1)
       have c1 := cells_1 HX1.out
       have f1 := free_1 HX1.out
       obtain ⟨va, vc, rfl, _⟩ := owns_form HO1.out
       clear ho1 hg1 hat1)
    | fail)
  have hrow := HO1.out
  refine bodyPost_end (results_none rfl _ _ _) rfl ⟨.slice va (xs.length + zs.length) vc, rfl, ⟨same_blk HX1.out rfl, ?_, HB.out.lo⟩, HW1.out.setCell HB.out.lo _, ⟨HF1.out.chg.trans ((Chg.set _ _ _).mono (fun _ _ e => .inl e)), fun k hk => by have := HF1.out.own k (by rw [List.length_append]; exact hk); exact this⟩⟩
  rw [List.length_append] at hrow ⊢
  refine owns_same hrow (fun j hj => Below.heap_setCell _ _ _ j (fun e => ?_))
  obtain ⟨cur, hc⟩ := owns_kind hrow hj
  rw [show j = bw from e, HX1.out] at hc
  cases hc
theorem WrAt.below {w w' : World} {base bw : Nat} {v : Value} {xs : List Int} (h : WrAt w base bw v xs) (hb : Below w.heap.size w w') : WrAt w' base bw v xs := ⟨kept_block hb h.box, owns_below h.row hb, h.lo⟩
set_option maxHeartbeats 1600000 in
set_option maxRecDepth 100000 in
theorem wNumber_any (base bw : Nat) (v : Value) (xs : List Int) (n : Nat) (w : World) (h : WrAt w base bw v xs) (hv : n ≤ 2147483647) (hl : xs.length ≤ 1000000) (hB : base ≤ w.heap.size) :
    Calls Tryz.prog 56 #[.pointer (some ⟨bw, 0, none⟩), .int .i64 n] w fun e w' => ∃ v', e = .returned (.tuple #[]) ∧ WrAt w' base bw v' (xs ++ numL n) ∧ Below base w w' ∧ WrF w w' bw v v' := by
  have HW : Hid (WrAt w base bw v xs) := h
  have HNU : Hid _ := number_any (n : Int) w (by omega)
  have hc : (0 : Int) ≤ (n : Int) ∧ (n : Int) ≤ 2147483647 := by omega
  rw [if_pos hc, if_pos hc, Int.toNat_natCast] at HNU
  have h5 : n < 128 ^ 5 := Nat.lt_of_le_of_lt hv (by decide)
  have hnl : (numL n).length ≤ 100 := Nat.le_trans (numL_len 5 h5 (by decide)).1 (by decide)
  clear h5
  clear h hc
  go_enter Tryz.func56, Tryz.ntmps56
  go_wp2_with fail
  refine Calls.mono HNU.out ?_
  rintro e w1 ⟨a, c, zs, rfl, rfl, ho1, hb1⟩
  obtain ⟨a', c', hv', hby, hnn, _⟩ := bys_of_owns ho1
  cases hv'
  have HPU : Hid _ := put_any base bw v xs (numL n) a c 0 w1 (HW.out.below hb1) hby hnn (by omega) (Nat.le_trans hB hb1.size)
  have HB1 : Hid (Below base w w1) := hb1.mono hB
  have HG1 : Hid (WrF w w1 bw v v) := WrF.of_below hb1
  clear hb1 ho1 hby hnn
  go_wp2_with fail
  refine Calls.mono HPU.out ?_
  rintro e w2 ⟨v', rfl, hw2, hb2, hf2⟩
  have HF2 : Hid (WrF w w2 bw v v') := HG1.out.trans hf2
  have HW2 : Hid _ := hw2
  have HB2 : Hid (Below base w w2) := HB1.out.trans hb2
  clear hw2 hb2 hf2
  go_wp2_with fail
  exact bodyPost_end (results_none rfl _ _ _) rfl ⟨v', rfl, HW2.out, HB2.out, HF2.out⟩
set_option maxHeartbeats 1600000 in
set_option maxRecDepth 100000 in
theorem wText_any (base bw : Nat) (v : Value) (xs : List Int) (t : ByteArray) (w : World) (h : WrAt w base bw v xs) (ht : t.size ≤ 1000) (hl : xs.length ≤ 1000000) (hB : base ≤ w.heap.size) :
    Calls Tryz.prog 57 #[.pointer (some ⟨bw, 0, none⟩), .string t] w fun e w' => ∃ v', e = .returned (.tuple #[]) ∧ WrAt w' base bw v' (xs ++ textL t) ∧ Below base w w' ∧ WrF w w' bw v v' := by
  have HW : Hid (WrAt w base bw v xs) := h
  have HNU : Hid _ := text_any t w (by omega)
  have h5 : t.size < 128 ^ 5 := Nat.lt_of_le_of_lt ht (by decide)
  have hnl : (textL t).length ≤ 2000 := by
    have h1 := (numL_len 5 h5 (by decide)).1
    unfold textL
    rw [if_pos (by omega), List.length_append, strL_len]
    omega
  clear h h5
  go_enter Tryz.func57, Tryz.ntmps57
  go_wp2_with fail
  refine Calls.mono HNU.out ?_
  rintro e w1 ⟨a, c, rfl, ho1, hb1⟩
  obtain ⟨a', c', hv', hby, hnn, _⟩ := bys_of_owns ho1
  cases hv'
  have HPU : Hid _ := put_any base bw v xs (textL t) a c (textC t) w1 (HW.out.below hb1) hby hnn (by omega) (Nat.le_trans hB hb1.size)
  have HB1 : Hid (Below base w w1) := hb1.mono hB
  have HG1 : Hid (WrF w w1 bw v v) := WrF.of_below hb1
  clear hb1 ho1 hby hnn
  go_wp2_with fail
  refine Calls.mono HPU.out ?_
  rintro e w2 ⟨v', rfl, hw2, hb2, hf2⟩
  have HF2 : Hid (WrF w w2 bw v v') := HG1.out.trans hf2
  have HW2 : Hid _ := hw2
  have HB2 : Hid (Below base w w2) := HB1.out.trans hb2
  clear hw2 hb2 hf2
  go_wp2_with fail
  exact bodyPost_end (results_none rfl _ _ _) rfl ⟨v', rfl, HW2.out, HB2.out, HF2.out⟩
end Go.Proofs.YtbamkdohaofgdaaGreatDoor.W
namespace Go.Proofs.YtbamkdohaofgdaaGreatDoor.W
open Go.RowKit
set_option linter.unusedVariables false
set_option linter.unusedSimpArgs false

/-- Numbers and texts that no put refuses. -/
structure EOk (st : Int) (p : ByteArray) (k : Int) (l : List SeenT) : Prop where
  st : 0 ≤ st ∧ st ≤ 2147483647
  p : p.size ≤ 1000
  k : 0 ≤ k ∧ k ≤ 2147483647
  len : l.length ≤ 64
  each : ∀ s ∈ l, s.p.size ≤ 1000 ∧ s.d.size ≤ 1000 ∧ 0 ≤ s.v ∧ s.v ≤ 2147483647
theorem num_le (n : Nat) (h : n ≤ 2147483647) : (numL n).length ≤ 5 := (numL_len 5 (Nat.lt_of_le_of_lt h (by decide)) (by decide)).1
theorem text_le (t : ByteArray) (h : t.size ≤ 1000) : (textL t).length ≤ 1005 := by
  unfold textL
  rw [if_pos (by omega), List.length_append, strL_len]
  have := num_le t.size (by omega)
  omega
theorem seensL_take {l : List SeenT} {q : Nat} {s : SeenT} (h : l[q]? = some s) : seensL (l.take (q + 1)) = seensL (l.take q) ++ seenL s := by
  unfold seensL
  rw [take_snoc h, List.map_append, List.flatten_append]
  simp
theorem seensL_le (l : List SeenT) (h : ∀ s ∈ l, s.p.size ≤ 1000 ∧ s.d.size ≤ 1000 ∧ 0 ≤ s.v ∧ s.v ≤ 2147483647) : (seensL l).length ≤ l.length * 2015 := by
  induction l with
  | nil => exact Nat.le_refl _
  | cons s t ih =>
    have h1 := h s (.head _)
    have h2 := ih (fun x hx => h x (.tail _ hx))
    have e : seensL (s :: t) = seenL s ++ seensL t := by simp [seensL]
    rw [e, List.length_append, List.length_cons]
    have h3 : (seenL s).length ≤ 2015 := by
      unfold seenL
      rw [List.length_append, List.length_append]
      have a1 := text_le s.p h1.1
      have a2 := text_le s.d h1.2.1
      have a3 := num_le s.v.toNat (by omega)
      omega
    omega
theorem _root_.Go.Proofs.YtbamkdohaofgdaaGreatDoor.Ss.chg {w w' : World} {a : Option Addr} {l : List SeenT} {base : Nat} (h : Ss w a l) (hb : Below base w w') (hlo : l ≠ [] → ∀ b o, a = some ⟨b, o, none⟩ → b < base) : Ss w' a l := by
  by_cases hl : l = []
  · exact .inl hl
  rcases h with h | ⟨b, o, ha, hlt, hs⟩
  · exact .inl h
  · refine .inr ⟨b, o, ha, Nat.lt_of_lt_of_le hlt hb.size, fun i s hi j x hx => ?_⟩
    rw [hb.cell (p := ⟨b, _, none⟩) (hlo hl b o ha)]
    exact hs i s hi j x hx
/-- What stands while a shot is written. -/
structure WS (w0 : World) (base bw : Nat) (w : World) (A : Array Value) (v : Value) (xs : List Int) : Prop where
  wr : WrAt w base bw v xs
  pa : w.heap[w0.heap.size]? = some (.cells A 24 (0, 0))
  low : Below base w0 w
  hB : base ≤ w.heap.size
theorem keep_box {w w' : World} {base bw b : Nat} {v v' : Value} {xs : List Int} {cs : Array Value} {t : TypeId} (h : WrAt w base bw v xs) (hf : WrF w w' bw v v') (hb : w.heap[b]? = some (.cells cs t (0, 0))) (ht : t ≠ 5) (ht' : t ≠ 83) : w'.heap[b]? = some (.cells cs t (0, 0)) := by
  rw [hf.chg.block b (lt_of_blk hb) (fun e => ?_)]
  · exact hb
  · rcases e with e | e
    · rw [e, h.box] at hb
      injection hb with hb
      injection hb with _ h2 _
      exact ht' h2.symm
    · obtain ⟨cur, hc⟩ := owns_kind h.row e
      rw [hb] at hc
      injection hc with hc
      injection hc with _ h2 _
      exact ht h2
theorem WS.put {w0 w w' : World} {base bw : Nat} {A : Array Value} {v v' : Value} {xs xs' : List Int} (h : WS w0 base bw w A v xs) (h1 : WrAt w' base bw v' xs') (h2 : Below base w w') (h3 : WrF w w' bw v v') : WS w0 base bw w' A v' xs' :=
  ⟨h1, keep_box h.wr h3 h.pa (by decide) (by decide), h.low.trans h2, Nat.le_trans h.hB h2.size⟩
theorem WS.alloc {w0 w : World} {base bw : Nat} {A : Array Value} {v : Value} {xs : List Int} (h : WS w0 base bw w A v xs) (o : Obj) : WS w0 base bw (w.alloc o) A v xs :=
  ⟨h.wr.below ((Below.refl _ _).alloc (Nat.le_refl _) _), new_old h.pa _, h.low.alloc h.hB _, by simp; have := h.hB; omega⟩
set_option maxHeartbeats 3200000 in
set_option maxRecDepth 100000 in
theorem wShot_any (base bw : Nat) (v : Value) (sn : Nat) (p : ByteArray) (kn : Nat) (a : Option Addr) (c n : Nat) (l : List SeenT) (w : World) (h : WrAt w base bw v []) (hB : base ≤ w.heap.size) (hs : Ss w a l) (hlo : l ≠ [] → ∀ b o, a = some ⟨b, o, none⟩ → b < base) (hok : EOk sn p kn l) (hn : l.length = n) :
    Calls Tryz.prog 26 #[.pointer (some ⟨bw, 0, none⟩), .agg (shA sn p kn a n c)] w fun e w' => ∃ v', e = .returned (.tuple #[]) ∧ WrAt w' base bw v' (shotL sn p kn l) ∧ Below base w w' := by
  have HS : Hid (Ss w a l) := hs
  have HLO : Hid (l ≠ [] → ∀ b o, a = some ⟨b, o, none⟩ → b < base) := hlo
  have HOK : Hid (EOk sn p kn l) := hok
  have HN : Hid (l.length = n) := hn
  have hn64 : n ≤ 64 := by rw [← hn]; exact hok.len
  have hsn : sn ≤ 2147483647 := by have := hok.st; omega
  have hkn : kn ≤ 2147483647 := by have := hok.k; omega
  have hp : p.size ≤ 1000 := hok.p
  have H0 : Hid (WS w base bw (w.alloc (.cells (shA sn p kn a n c) 24)) (shA sn p kn a n c) v []) := ⟨h.below ((Below.refl _ _).alloc (Nat.le_refl _) _), heap_alloc_new _ _, (Below.refl _ _).alloc hB _, by simp; omega⟩
  clear h hs hlo hn hok
  go_enter Tryz.func26, Tryz.ntmps26
  go_wp2_with fail
  refine (wNumber_any base bw v [] sn _ H0.out.wr hsn (by simp) H0.out.hB).mono ?_
  rintro e w1 ⟨v1, rfl, hw1, hb1, hf1⟩
  have H1 : Hid (WS w base bw w1 (shA sn p kn a n c) v1 (numL sn)) := H0.out.put hw1 hb1 hf1
  obtain ⟨a0, a1, a2, a3⟩ := cells_4 H1.out.pa
  clear hw1 hb1 hf1
  go_wp2_with fail
  refine (wText_any base bw v1 (numL sn) p _ H1.out.wr hp (by have := num_le sn hsn; omega) H1.out.hB).mono ?_
  rintro e w2 ⟨v2, rfl, hw2, hb2, hf2⟩
  have H2 : Hid (WS w base bw w2 (shA sn p kn a n c) v2 (numL sn ++ textL p)) := H1.out.put hw2 hb2 hf2
  clear hw2 hb2 hf2 a0 a1 a2 a3
  obtain ⟨a0, a1, a2, a3⟩ := cells_4 H2.out.pa
  go_wp2_with fail
  refine (wNumber_any base bw v2 (numL sn ++ textL p) kn _ H2.out.wr hkn (by have := num_le sn hsn; have := text_le p hp; rw [List.length_append]; omega) H2.out.hB).mono ?_
  rintro e w3 ⟨v3, rfl, hw3, hb3, hf3⟩
  have H3 : Hid (WS w base bw w3 (shA sn p kn a n c) v3 ((numL sn ++ textL p) ++ numL kn)) := H2.out.put hw3 hb3 hf3
  clear hw3 hb3 hf3 a0 a1 a2 a3
  obtain ⟨a0, a1, a2, a3⟩ := cells_4 H3.out.pa
  go_wp2_with fail
  refine (wNumber_any base bw v3 ((numL sn ++ textL p) ++ numL kn) n _ H3.out.wr (by omega) (by have := num_le sn hsn; have := text_le p hp; have := num_le kn hkn; rw [List.length_append, List.length_append]; omega) H3.out.hB).mono ?_
  rintro e w4 ⟨v4, rfl, hw4, hb4, hf4⟩
  obtain ⟨pre, hpre⟩ : ∃ pre, ((numL sn ++ textL p) ++ numL kn) ++ numL n = pre := ⟨_, rfl⟩
  have HPL : Hid (pre.length ≤ 1020) := by
    show _ ≤ _
    rw [← hpre]
    have := num_le sn hsn; have := text_le p hp; have := num_le kn hkn; have := num_le n (by omega)
    rw [List.length_append, List.length_append, List.length_append]; omega
  have HPR : Hid (pre ++ seensL l = shotL sn p kn l) := by
    show _ = _
    rw [← hpre]
    unfold shotL
    rw [Int.toNat_natCast, Int.toNat_natCast, HN.out]
    simp only [List.append_assoc]
  rw [hpre] at hw4
  have H4 : Hid (WS w base bw w4 (shA sn p kn a n c) v4 pre) := H3.out.put hw4 hb4 hf4
  clear hw4 hb4 hf4 hpre a0 a1 a2 a3
  obtain ⟨a0, a1, a2, a3⟩ := cells_4 H4.out.pa
  go_wp2_with fail
  clear a0 a1 a2 a3
  go_loopw [26] (fun i wr => ∃ (q : Nat) (v' : Value), i = .int .i64 q ∧ q ≤ n ∧ Hid (WS w base bw wr (shA sn p kn a n c) v' (pre ++ seensL (l.take q)))) (fun i _ => n - (intOf i).toNat)
  case atStart => exact ⟨0, v4, rfl, Nat.zero_le _, by show WS _ _ _ _ _ _ _; simpa [seensL] using H4.out⟩
  case round =>
    obtain ⟨q, v', rfl, hq, HW⟩ := hrel
    by_cases hlt : q < n
    · have hlt' : (q : Int) < (n : Int) := by omega
      obtain ⟨x, hx⟩ : ∃ x, l[q]? = some x := ⟨l[q]'(by rw [HN.out]; exact hlt), List.getElem?_eq_getElem _⟩
      obtain ⟨b, o, rfl, hb, x0, x1, x2⟩ := (HS.out.chg HW.out.low HLO.out).at hx
      have HX : Hid (l[q]? = some x) := hx
      obtain ⟨e1, e2, e3, e4⟩ := HOK.out.each x (List.mem_of_getElem? hx)
      obtain ⟨xv, hxv⟩ : ∃ xv : Nat, x.v = xv := ⟨x.v.toNat, by omega⟩
      have HXV : Hid (x.v.toNat = xv) := by show _ = _; omega
      rw [hxv] at x2 e4
      have hxv4 : xv ≤ 2147483647 := by omega
      have HL : Hid ((seensL (l.take q)).length ≤ 64 * 2015) := by
        show _ ≤ _
        refine Nat.le_trans (seensL_le _ (fun s hs => HOK.out.each s (List.mem_of_mem_take hs))) ?_
        rw [List.length_take]
        have : min q l.length ≤ 64 := by omega
        exact Nat.mul_le_mul_right _ this
      clear hx hxv e3 e4
      have HN1 : Hid ((wr.alloc (.cells #[.string x.p, .string x.d, .int .i64 xv] 52)).heap[wr.heap.size]? = some (.cells #[.string x.p, .string x.d, .int .i64 xv] 52 (0, 0))) := heap_alloc_new _ _
      have HW1 : Hid (WS w base bw (wr.alloc (.cells #[.string x.p, .string x.d, .int .i64 xv] 52)) (shA sn p kn (some ⟨b, o, none⟩) n c) v' (pre ++ seensL (l.take q))) := HW.out.alloc _
      go_wp2_with fail
      clear x0 x1 x2
      refine (wText_any base bw v' (pre ++ seensL (l.take q)) x.p _ HW1.out.wr e1 (by have := HPL.out; have := HL.out; rw [List.length_append]; omega) HW1.out.hB).mono ?_
      rintro e w5 ⟨v5, rfl, hw5, hb5, hf5⟩
      have HN5 : Hid (w5.heap[wr.heap.size]? = some (.cells #[.string x.p, .string x.d, .int .i64 xv] 52 (0, 0))) := keep_box HW1.out.wr hf5 HN1.out (by decide) (by decide)
      have H5 : Hid (WS w base bw w5 (shA sn p kn (some ⟨b, o, none⟩) n c) v5 ((pre ++ seensL (l.take q)) ++ textL x.p)) := HW1.out.put hw5 hb5 hf5
      clear hw5 hb5 hf5
      obtain ⟨x0, x1, x2⟩ := cells_3 HN5.out
      go_wp2_with fail
      refine (wText_any base bw v5 ((pre ++ seensL (l.take q)) ++ textL x.p) x.d _ H5.out.wr e2 (by have := HPL.out; have := HL.out; have := text_le x.p e1; rw [List.length_append, List.length_append]; omega) H5.out.hB).mono ?_
      rintro e w6 ⟨v6, rfl, hw6, hb6, hf6⟩
      have HN6 : Hid (w6.heap[wr.heap.size]? = some (.cells #[.string x.p, .string x.d, .int .i64 xv] 52 (0, 0))) := keep_box H5.out.wr hf6 HN5.out (by decide) (by decide)
      have H6 : Hid (WS w base bw w6 (shA sn p kn (some ⟨b, o, none⟩) n c) v6 (((pre ++ seensL (l.take q)) ++ textL x.p) ++ textL x.d)) := H5.out.put hw6 hb6 hf6
      clear hw6 hb6 hf6 x0 x1 x2
      obtain ⟨x0, x1, x2⟩ := cells_3 HN6.out
      go_wp2_with fail
      refine (wNumber_any base bw v6 (((pre ++ seensL (l.take q)) ++ textL x.p) ++ textL x.d) xv _ H6.out.wr hxv4 (by have := HPL.out; have := HL.out; have := text_le x.p e1; have := text_le x.d e2; rw [List.length_append, List.length_append, List.length_append]; omega) H6.out.hB).mono ?_
      rintro e w7 ⟨v7, rfl, hw7, hb7, hf7⟩
      have H7 : Hid (WS w base bw w7 (shA sn p kn (some ⟨b, o, none⟩) n c) v7 (pre ++ seensL (l.take (q + 1)))) := by
        have := H6.out.put hw7 hb7 hf7
        show WS _ _ _ _ _ _ _
        rw [seensL_take HX.out]
        unfold seenL
        rw [HXV.out]
        simpa only [List.append_assoc] using this
      clear hw7 hb7 hf7 x0 x1 x2
      go_wp2_with fail
      go_roundw
      case rel => exact ⟨q + 1, v7, by go_num, by omega, H7⟩
      case measure => simp [intOf]; omega
    · obtain rfl : q = n := by omega
      have hge : ¬ (q : Int) < (q : Int) := by omega
      have H9 : Hid (WS w base bw wr (shA sn p kn a q c) v' (shotL sn p kn l)) := by
        have := HW.out
        rw [← HN.out, List.take_length, HPR.out] at this
        rw [← HN.out]
        exact this
      go_wp2_with fail
      exact bodyPost_end (results_none rfl _ _ _) rfl ⟨rfl, ⟨v', H9.out.wr⟩, H9.out.low⟩
end Go.Proofs.YtbamkdohaofgdaaGreatDoor.W
