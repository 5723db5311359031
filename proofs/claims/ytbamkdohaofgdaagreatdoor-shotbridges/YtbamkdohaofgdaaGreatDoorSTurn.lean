import Derived.Test.YtbamkdohaofgdaaGreatDoorSEqual
namespace Go.Proofs.YtbamkdohaofgdaaGreatDoor
open Go.RowKit Classical
set_option linter.unusedVariables false
set_option linter.unusedSimpArgs false

theorem Tryz.infoS : (Tryz.prog.info? 52).map (fun i => (i.zero, i.size, i.bytes)) = some (some (.agg #[.string ⟨#[]⟩, .string ⟨#[]⟩, .int .i64 0]), 3, 40) := by kernel_rfl
abbrev pB : ByteArray := ⟨#[98, 101, 104, 105, 110, 100]⟩
abbrev markT : SeenT := ⟨pB, ⟨#[]⟩, 91⟩
theorem grown_other {w w' : World} {base e n b : Nat} {v : Value} {xs : List Value} {o : Obj} {cs : Array Value} {t : TypeId} (hr : w.ownsRow base e 3 v n xs) (hg : (w.alloc o).grownBy w' v.ownBlock) (h : w.heap[b]? = some (.cells cs t (0, 0))) (ht : t ≠ e) : w'.heap[b]? = some (.cells cs t (0, 0)) := by
  rw [hg.block b (by simp; have := lt_of_blk h; omega) (fun he => ?_)]
  · exact new_old h _
  · obtain ⟨cur, hc⟩ := owns_kind hr he.symm
    rw [h] at hc
    injection hc with hc
    injection hc with _ h2 _
    exact ht h2
theorem owns_cap {w : World} {B e s n g cap : Nat} {xs : List Value} (h : w.ownsRow B e s (.slice (some ⟨g, 0, none⟩) n cap) n xs) : n ≤ cap := by
  rcases h.2 with ⟨h0, _⟩ | ⟨g', cap', cur, hv, _, hg, hn, _⟩
  · cases h0
  · cases hv
    exact hn
theorem wpList_app {w : World} {ops : Array Oper} {rest : List Oper} {o : Oper} {act : Act} {Q : Exit → Act → World → Prop} (hgd : o.guard = none) (s x : Operand)
    (ho : o.op = .call { callee := .builtin .append, args := #[s, x], argTypes := #[22, 22] }) (base : Nat) (v : Value) (n : Nat) (xs : List Value) (hs : act.eval s = v) (hown : w.ownsRow base 52 3 v n xs)
    (ad : Option Addr) (m c : Nat) (ys : List SeenT) (hx : act.eval x = .slice ad m c) (hm : m = ys.length) (hby : Ss w ad ys) (hn : ad = none → c = 0) (hlen : n + ys.length ≤ 1000000) (hB : base ≤ w.heap.size)
    (h : ∀ v' w', w'.ownsRow base 52 3 v' (n + ys.length) (xs ++ seCs ys) → w.grownBy w' v.ownBlock → wpList Tryz.prog ops Q rest (act.put o.dst v') w') : wpList Tryz.prog ops Q (o :: rest) act w := by
  obtain ⟨i0, hi, hz0, hz1, hz2⟩ := info_parts Tryz.infoS
  subst hm
  cases ad with
  | none =>
    have hc0 := hn rfl
    subst hc0
    have hys : ys = [] := by
      rcases hby with h | ⟨b, o, h, _⟩
      · exact h
      · cases h
    subst hys
    refine wpList_append_own_none hgd s x 22 ho base 52 i0 3 Tryz.underlying22 hi _ _ _ hs hown hx ?_
    have := h v w (by simpa [seCs] using hown) ⟨rfl, rfl, rfl, Nat.le_refl _, fun _ _ _ => rfl⟩
    exact this
  | some ad =>
    refine wpList_append_own_at _ hgd s x 22 ho base 52 i0 _ 3 40 Tryz.underlying22 hi hz0 hz1 hz2 rfl (by decide) v n xs hs hown ad ys.length c (seCs ys) hx (seCs_len _) (ss_news hby) (seCs_one _) (by unfold maxLen; omega) (by omega) hB ?_
    intro v' w' ho' hg' _ _
    exact h v' w' ho' hg'

end Go.Proofs.YtbamkdohaofgdaaGreatDoor
namespace Go.Proofs.YtbamkdohaofgdaaGreatDoor
open Go.RowKit
set_option linter.unusedVariables false
set_option linter.unusedSimpArgs false

/-- w' is w but for the blocks of S and new ones. -/
structure Chg (w w' : World) (S : Nat → Prop) : Prop where
  os : w'.os = w.os
  tape : w'.tape = w.tape
  output : w'.output = w.output
  size : w.heap.size ≤ w'.heap.size
  block : ∀ k, k < w.heap.size → ¬ S k → w'.heap[k]? = w.heap[k]?

theorem Chg.trans {w w1 w2 : World} {S : Nat → Prop} (h : Chg w w1 S) (k : Chg w1 w2 S) : Chg w w2 S :=
  ⟨k.os.trans h.os, k.tape.trans h.tape, k.output.trans h.output, Nat.le_trans h.size k.size, fun i hi hs => (k.block i (Nat.lt_of_lt_of_le hi h.size) hs).trans (h.block i hi hs)⟩
theorem Chg.mono {w w' : World} {S S' : Nat → Prop} (h : Chg w w' S) (hs : ∀ k, k < w.heap.size → S k → S' k) : Chg w w' S' :=
  ⟨h.os, h.tape, h.output, h.size, fun k hk hn => h.block k hk (fun h' => hn (hs k hk h'))⟩
theorem Chg.refl (w : World) (S : Nat → Prop) : Chg w w S := ⟨rfl, rfl, rfl, Nat.le_refl _, fun _ _ _ => rfl⟩
theorem Chg.grown {w w' : World} {row : Option Nat} (h : w.grownBy w' row) : Chg w w' (fun k => row = some k) :=
  ⟨h.os, h.tape, h.output, h.size, fun k hk hn => h.block k hk (fun e => hn e.symm)⟩
theorem Chg.alloc (w : World) (o : Obj) (S : Nat → Prop) : Chg w (w.alloc o) S := (Chg.grown (World.grownBy_alloc w o none)).mono (fun _ _ h => by cases h)
theorem Chg.set (w : World) (a : Addr) (v : Value) : Chg w (w.setCell a v) (fun k => k = a.block) :=
  ⟨rfl, rfl, rfl, by simp, fun k _ hn => Below.heap_setCell w a v k hn⟩
theorem Chg.of_below {w w' : World} (h : Below w.heap.size w w') (S : Nat → Prop) : Chg w w' S := ⟨h.os, h.tape, h.output, h.size, fun k hk _ => h.block k hk⟩
theorem Chg.below {w w' : World} {S : Nat → Prop} {B : Nat} (h : Chg w w' S) (hB : B ≤ w.heap.size) (hs : ∀ k, k < w.heap.size → S k → B ≤ k) : Below B w w' :=
  ⟨h.os, h.tape, h.output, h.size, fun k hk => h.block k (Nat.lt_of_lt_of_le hk hB) (fun h' => by have := hs k (Nat.lt_of_lt_of_le hk hB) h'; omega)⟩


theorem owns_set {w : World} {B e s n g cap k : Nat} {xs : List Value} (h : w.ownsRow B e s (.slice (some ⟨g, 0, none⟩) n cap) n xs) (x : Value) : (w.setCell ⟨g, k, none⟩ x).ownsRow B e s (.slice (some ⟨g, 0, none⟩) n cap) n (xs.set k x) := by
  refine ⟨by rw [List.length_set]; exact h.1, ?_⟩
  rcases h.2 with ⟨h0, _⟩ | ⟨g', cap', cur, hv, hB, hg, hn, hc, hsz, ht⟩
  · cases h0
  · cases hv
    refine .inr ⟨g, cap, cur.setIfInBounds k x, rfl, hB, heap_setCell_same w g k cur e x hg, hn, hc, by simpa using hsz, ?_⟩
    rw [← ht, Array.toList_setIfInBounds, List.take_set]
theorem blk_of {w : World} {B e s n g cap : Nat} {xs : List Value} (h : w.ownsRow B e s (.slice (some ⟨g, 0, none⟩) n cap) n xs) (k : Nat) : w.frozen? ⟨g, k, none⟩ = false := by
  rcases h.2 with ⟨h0, _⟩ | ⟨g', cap', cur, hv, hB, hg, hn, hc, hsz, ht⟩
  · cases h0
  · cases hv
    simp [World.frozen?, hg]
abbrev pT : ByteArray := ⟨#[116, 117, 114, 110, 101, 100]⟩
def turn (s : SeenT) : SeenT := ⟨s.p, pT, 7⟩
theorem set_turn (A B : List SeenT) (o : SeenT) (q : Nat) (hq : A.length = q) (M : List Value) : ((seCs (A ++ o :: B) ++ M).set (q * 3 + 1) (.string pT)).set (q * 3 + 2) (.int .i64 7) = seCs (A ++ turn o :: B) ++ M := by
  have hl : (seCs A).length = q * 3 := by rw [seCs_len, hq]
  have e : ∀ o : SeenT, seCs (A ++ o :: B) ++ M = seCs A ++ (.string o.p :: .string o.d :: .int .i64 o.v :: (seCs B ++ M)) := fun o => by simp [seCs]
  rw [e, e, List.set_append_right _ _ (by omega), List.set_append_right _ _ (by omega), hl, show q * 3 + 1 - q * 3 = 1 by omega, show q * 3 + 2 - q * 3 = 2 by omega]
  rfl
def upTo (l : List SeenT) (q : Nat) : List SeenT := (l.take q).map turn ++ l.drop q
theorem upTo_zero (l : List SeenT) : upTo l 0 = l := by simp [upTo]
theorem upTo_all (l : List SeenT) : upTo l l.length = l.map turn := by simp [upTo]
theorem upTo_len (l : List SeenT) (q : Nat) : (upTo l q).length = l.length := by simp [upTo]; omega
theorem upTo_step {l : List SeenT} {q : Nat} (h : q < l.length) (M : List Value) : ((seCs (upTo l q) ++ M).set (q * 3 + 1) (.string pT)).set (q * 3 + 2) (.int .i64 7) = seCs (upTo l (q + 1)) ++ M := by
  have h1 : upTo l q = (l.take q).map turn ++ l[q] :: l.drop (q + 1) := by unfold upTo; rw [List.drop_eq_getElem_cons h]
  have h2 : upTo l (q + 1) = (l.take q).map turn ++ turn l[q] :: l.drop (q + 1) := by unfold upTo; rw [List.take_add_one, List.getElem?_eq_getElem h, Option.toList_some, List.map_append, List.append_assoc]; rfl
  rw [h1, h2]
  exact set_turn _ _ _ q (by simp; omega) M
theorem upTo_at {l : List SeenT} {q : Nat} (h : q < l.length) : (upTo l q)[q]? = some l[q] := by
  unfold upTo
  rw [List.getElem?_append_right (by simp; omega), List.drop_eq_getElem_cons h]
  simp [Nat.min_eq_left (Nat.le_of_lt h)]

end Go.Proofs.YtbamkdohaofgdaaGreatDoor
