/-
  note: the writer.
-/
import Derived.Test.YtdjfeomdiljaeaaGreatDoorNtData
namespace Go.Proofs.YtdjfeomdiljaeaaGreatDoor
open Go.RowKit
set_option linter.unusedVariables false
set_option linter.unusedSimpArgs false

theorem numLe {n : Nat} (h : n ≤ 2147483647) : (numL n).length ≤ 5 := (numL_len 5 (Nat.lt_of_le_of_lt h (by decide)) (by decide)).1
theorem textLe {t : ByteArray} (h : t.size ≤ 262144) : (textL t).length ≤ t.size + 5 := by
  have h1 := numLe (n := t.size) (by omega)
  unfold textL
  rw [if_pos h, List.length_append, strL_len]
  omega
theorem wpList_appB {w : World} {ops : Array Oper} {rest : List Oper} {o : Oper} {act : Act} {Q : Exit → Act → World → Prop} (hgd : o.guard = none) (s x : Operand)
    (ho : o.op = .call { callee := .builtin .append, args := #[s, x], argTypes := #[25, 25] }) (base : Nat) (v : Value) (xs : List Int) (hs : act.eval s = v) (hown : w.ownsRow base 5 1 v xs.length (bv xs))
    (ad : Option Addr) (m c : Nat) (ys : List Int) (hx : act.eval x = .slice ad m c) (hm : m = ys.length) (hby : Bys w ad ys) (hn : ad = none → c = 0) (hlen : xs.length + ys.length ≤ 10000000) (hB : base ≤ w.heap.size)
    (h : ∀ v' w', w'.ownsRow base 5 1 v' (xs ++ ys).length (bv (xs ++ ys)) → w.grownBy w' v.ownBlock → (v'.ownBlock = v.ownBlock ∨ v'.ownBlock = some w.heap.size) → wpList Tryz.prog ops Q rest (act.put o.dst v') w') : wpList Tryz.prog ops Q (o :: rest) act w := by
  obtain ⟨i0, hi, hz0, hz1, hz2⟩ := info_parts Tryz.info5
  subst hm
  cases ad with
  | none =>
    have hc0 := hn rfl
    subst hc0
    have hys : ys = [] := by
      rcases hby with h | ⟨b, o, h, _⟩
      · exact h
      · cases h
    subst hys
    refine wpList_append_own_none hgd s x 25 ho base 5 i0 1 Tryz.underlying25 hi _ _ _ hs hown hx ?_
    have := h v w (by rw [List.append_nil]; exact hown) ⟨rfl, rfl, rfl, Nat.le_refl _, fun _ _ _ => rfl⟩ (.inl rfl)
    exact this
  | some ad =>
    refine wpList_append_own_at _ hgd s x 25 ho base 5 i0 (.int .u8 0) 1 1 Tryz.underlying25 hi hz0 hz1 hz2 rfl (by decide) v xs.length (bv xs) hs hown ad ys.length c (bv ys) hx (by rw [bv_len, Nat.mul_one]) (cells_at hby) (bv_one _) (by unfold maxLen; omega) (by omega) hB ?_
    intro v' w' ho' hg' _ hat'
    exact h v' w' (by rw [List.length_append, bv_append]; exact ho') hg' hat'
/-- A writer that has these bytes: its row lies behind it. -/
structure WrAt (t : TypeId) (w : World) (bw : Nat) (v : Value) (xs : List Int) : Prop where
  box : w.heap[bw]? = some (.cells #[v] t (0, 0))
  row : w.ownsRow bw 5 1 v xs.length (bv xs)
theorem WrAt.lt {t : TypeId} {w : World} {bw : Nat} {v : Value} {xs : List Int} (h : WrAt t w bw v xs) : bw < w.heap.size := lt_of_blk h.box
theorem WrAt.below {t : TypeId} {w w' : World} {bw : Nat} {v : Value} {xs : List Int} (h : WrAt t w bw v xs) (hb : Below w.heap.size w w') : WrAt t w' bw v xs := ⟨kept_block hb h.box, owns_below h.row hb⟩
theorem WrAt.new {t : TypeId} (w : World) : WrAt t (w.alloc (.cells #[.slice none 0 0] t)) w.heap.size (.slice none 0 0) [] := ⟨heap_alloc_new _ _, ⟨rfl, .inl ⟨rfl, rfl⟩⟩⟩
/-- What a put leaves as it was. -/
structure WrF (w w' : World) (bw : Nat) (v v' : Value) : Prop where
  chg : Chg w w' (fun k => k = bw ∨ v.ownBlock = some k)
  own : ∀ k, v'.ownBlock = some k → v.ownBlock = some k ∨ w.heap.size ≤ k
theorem WrF.trans {w w1 w2 : World} {bw : Nat} {v v1 v2 : Value} (h : WrF w w1 bw v v1) (k : WrF w1 w2 bw v1 v2) : WrF w w2 bw v v2 := by
  refine ⟨⟨k.chg.os.trans h.chg.os, k.chg.tape.trans h.chg.tape, k.chg.output.trans h.chg.output, Nat.le_trans h.chg.size k.chg.size, fun j hj hn => ?_⟩, fun j hj => ?_⟩
  · rw [k.chg.block j (Nat.lt_of_lt_of_le hj h.chg.size) (fun e => ?_), h.chg.block j hj hn]
    rcases e with e | e
    · exact hn (.inl e)
    · rcases h.own j e with e | e
      · exact hn (.inr e)
      · omega
  · rcases k.own j hj with e | e
    · exact h.own j e
    · exact .inr (Nat.le_trans h.chg.size e)
theorem WrF.of_below {w w1 : World} {bw : Nat} {v : Value} (h : Below w.heap.size w w1) : WrF w w1 bw v v := ⟨Chg.of_below h _, fun k hk => .inl hk⟩
/-- How a call ends that puts these bytes behind the writer's. -/
def WrEnd (t : TypeId) (bw : Nat) (v : Value) (xs zs : List Int) (w : World) (e : Ending) (w' : World) : Prop := ∃ v', e = .returned (.tuple #[]) ∧ WrAt t w' bw v' (xs ++ zs) ∧ Below bw w w' ∧ WrF w w' bw v v'
theorem WrEnd.of {t : TypeId} {bw : Nat} {v v1 : Value} {xs z1 zs : List Int} {w w1 : World} (hb : Below bw w w1) (hf : WrF w w1 bw v v1) {e : Ending} {w2 : World} (h : WrEnd t bw v1 (xs ++ z1) zs w1 e w2) : WrEnd t bw v xs (z1 ++ zs) w e w2 := by
  obtain ⟨v2, he, ha, hb2, hf2⟩ := h
  exact ⟨v2, he, by rw [← List.append_assoc]; exact ha, hb.trans hb2, hf.trans hf2⟩
set_option maxHeartbeats 1600000 in
set_option maxRecDepth 100000 in
theorem put_any (bw : Nat) (v : Value) (xs zs : List Int) (a : Option Addr) (c : Nat) (w : World) (h : WrAt 67 w bw v xs) (hz : Bys w a zs) (hn : a = none → c = 0) (hl : xs.length + zs.length ≤ 10000000) :
    Calls Tryz.prog 95 #[.pointer (some ⟨bw, 0, none⟩), .slice a zs.length c, .int .i64 0] w (WrEnd 67 bw v xs zs w) := by
  have HB : Hid (WrAt 67 w bw v xs) := h
  have HZ : Hid (Bys w a zs) := hz
  have hB : bw ≤ w.heap.size := Nat.le_of_lt h.lt
  have b0 := cells_1 h.box
  clear h hz
  go_enter Tryz.func95, Tryz.ntmps95
  go_wp2_with fail
  refine (must_ck _ _).mono ?_
  rintro e w0 ⟨⟨rfl, _⟩ | ⟨rfl, h⟩, hw0⟩
  rotate_left
  · exact absurd rfl h
  rw [hw0]
  clear hw0
  go_wp2_with (first
    | (at_builtin; refine wpList_appB rfl _ _ rfl bw v xs rfl HB.out.row a zs.length c zs rfl rfl HZ.out hn hl hB ?_
       intro v1 w1 ho1 hg1 hat1
       have HF1 : Hid (WrF w w1 bw v v1) := ⟨(Chg.grown hg1).mono (fun _ _ e => .inr e), fun k hk => by
         rcases hat1 with e | e
         · rw [e] at hk; exact .inl hk
         · rw [e] at hk; cases hk; exact .inr (Nat.le_refl _)⟩
       have HO1 : Hid (w1.ownsRow bw 5 1 v1 (xs ++ zs).length (bv (xs ++ zs))) := ho1
       have HX1 : Hid (w1.heap[bw]? = some (.cells #[v] 67 (0, 0))) := by
         show _ = _
         rw [hg1.block bw (lt_of_blk HB.out.box) (fun e => by
           obtain ⟨cur, hc⟩ := owns_kind HB.out.row e.symm
           rw [HB.out.box] at hc
           cases hc)]
         exact HB.out.box
       have HW1 : Hid (Below bw w w1) := (Below.refl _ _).grown hg1 hB (fun j hj => (HB.out.row.lt j hj).1)
       have c1 := cells_1 HX1.out
       have f1 := free_1 HX1.out
       obtain ⟨va, vc, rfl, _⟩ := bys_of_owns HO1.out
       clear ho1 hg1 hat1)
    | fail)
  have hrow := HO1.out
  refine bodyPost_end (results_none rfl _ _ _) rfl ⟨.slice va (xs ++ zs).length vc, rfl, ⟨same_blk HX1.out (by rw [List.length_append]; rfl), ?_⟩, HW1.out.setCell (Nat.le_refl _) _, ⟨HF1.out.chg.trans ((Chg.set _ _ _).mono (fun _ _ e => .inl e)), fun k hk => HF1.out.own k hk⟩⟩
  refine owns_same hrow (fun j hj => Below.heap_setCell _ _ _ j (fun e => ?_))
  obtain ⟨cur, hc⟩ := owns_kind hrow hj
  rw [show j = bw from e, HX1.out] at hc
  cases hc
set_option maxHeartbeats 1600000 in
set_option maxRecDepth 100000 in
theorem wr_number (bw : Nat) (v : Value) (xs : List Int) (n : Nat) (w : World) (h : WrAt 67 w bw v xs) (hv : n ≤ 2147483647) (hl : xs.length ≤ 1000000) :
    Calls Tryz.prog 58 #[.pointer (some ⟨bw, 0, none⟩), .int .i64 n] w (WrEnd 67 bw v xs (numL n) w) := by
  have HW : Hid (WrAt 67 w bw v xs) := h
  have hB : bw ≤ w.heap.size := Nat.le_of_lt h.lt
  have HNU : Hid (Calls Tryz.prog 96 #[.int .i64 n] w fun e w' => ∃ a c, e = .returned (.tuple #[.slice a (numL n).length c, .int .i64 0]) ∧ w'.ownsRow w.heap.size 5 1 (.slice a (numL n).length c) (numL n).length (bv (numL n)) ∧ Below w.heap.size w w') := by
    have h1 := number_any (n : Int) w (by omega)
    have hc : (0 : Int) ≤ (n : Int) ∧ (n : Int) ≤ 2147483647 := by omega
    rw [if_pos hc, if_pos hc, Int.toNat_natCast] at h1
    refine Calls.mono h1 ?_
    rintro e w' ⟨a, c, zs, rfl, rfl, h2, h3⟩
    exact ⟨a, c, rfl, h2, h3⟩
  have hnl := numLe hv
  clear h
  go_enter Tryz.func58, Tryz.ntmps58
  go_wp2_with fail
  refine Calls.mono HNU.out ?_
  rintro e w1 ⟨a, c, rfl, ho1, hb1⟩
  obtain ⟨a', c', hv', hby, hnn, _⟩ := bys_of_owns ho1
  cases hv'
  have HPU : Hid _ := put_any bw v xs (numL n) a c w1 (HW.out.below hb1) hby hnn (by omega)
  have HB1 : Hid (Below bw w w1) := hb1.mono hB
  have HG1 : Hid (WrF w w1 bw v v) := WrF.of_below hb1
  clear hb1 ho1 hby hnn
  go_wp2_with fail
  refine Calls.mono HPU.out ?_
  rintro e w2 ⟨v', rfl, hw2, hb2, hf2⟩
  have HF2 : Hid (WrF w w2 bw v v') := HG1.out.trans hf2
  have HW2 : Hid _ := hw2
  have HB2 : Hid (Below bw w w2) := HB1.out.trans hb2
  clear hw2 hb2 hf2
  go_wp2_with fail
  exact bodyPost_end (results_none rfl _ _ _) rfl ⟨v', rfl, HW2.out, HB2.out, HF2.out⟩
set_option maxHeartbeats 1600000 in
set_option maxRecDepth 100000 in
theorem wr_text (bw : Nat) (v : Value) (xs : List Int) (t : ByteArray) (w : World) (h : WrAt 67 w bw v xs) (hv : t.size ≤ 262144) (hl : xs.length ≤ 1000000) :
    Calls Tryz.prog 107 #[.pointer (some ⟨bw, 0, none⟩), .string t] w (WrEnd 67 bw v xs (textL t) w) := by
  have HW : Hid (WrAt 67 w bw v xs) := h
  have hB : bw ≤ w.heap.size := Nat.le_of_lt h.lt
  have HNU : Hid (Calls Tryz.prog 167 #[.string t] w fun e w' => ∃ a c, e = .returned (.tuple #[.slice a (textL t).length c, .int .i64 0]) ∧ w'.ownsRow w.heap.size 5 1 (.slice a (textL t).length c) (textL t).length (bv (textL t)) ∧ Below w.heap.size w w') := by
    have h1 := text_any t w (by omega)
    rw [show textC t = 0 by unfold textC; rw [if_pos hv]] at h1
    exact h1
  have hnl := textLe hv
  clear h
  go_enter Tryz.func107, Tryz.ntmps107
  go_wp2_with fail
  refine Calls.mono HNU.out ?_
  rintro e w1 ⟨a, c, rfl, ho1, hb1⟩
  obtain ⟨a', c', hv', hby, hnn, _⟩ := bys_of_owns ho1
  cases hv'
  have HPU : Hid _ := put_any bw v xs (textL t) a c w1 (HW.out.below hb1) hby hnn (by omega)
  have HB1 : Hid (Below bw w w1) := hb1.mono hB
  have HG1 : Hid (WrF w w1 bw v v) := WrF.of_below hb1
  clear hb1 ho1 hby hnn
  go_wp2_with fail
  refine Calls.mono HPU.out ?_
  rintro e w2 ⟨v', rfl, hw2, hb2, hf2⟩
  have HF2 : Hid (WrF w w2 bw v v') := HG1.out.trans hf2
  have HW2 : Hid _ := hw2
  have HB2 : Hid (Below bw w w2) := HB1.out.trans hb2
  clear hw2 hb2 hf2
  go_wp2_with fail
  exact bodyPost_end (results_none rfl _ _ _) rfl ⟨v', rfl, HW2.out, HB2.out, HF2.out⟩
end Go.Proofs.YtdjfeomdiljaeaaGreatDoor
