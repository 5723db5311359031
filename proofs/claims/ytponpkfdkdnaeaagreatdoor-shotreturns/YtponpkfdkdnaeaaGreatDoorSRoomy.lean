/-
  shot: roomy, alike, untouched.
-/
import Derived.Test.YtponpkfdkdnaeaaGreatDoorSEqual
namespace Go.Proofs.YtponpkfdkdnaeaaGreatDoor
open Go.RowKit Classical
set_option linter.unusedVariables false
set_option linter.unusedSimpArgs false

theorem Tryz.infoS : (Tryz.prog.info? 54).map (fun i => (i.zero, i.size, i.bytes)) = some (some (.agg #[.string ⟨#[]⟩, .string ⟨#[]⟩, .int .i64 0]), 3, 40) := by kernel_rfl
abbrev pB : ByteArray := ⟨#[98, 101, 104, 105, 110, 100]⟩
abbrev markT : SeenT := ⟨pB, ⟨#[]⟩, 91⟩
set_option maxHeartbeats 3200000 in
set_option maxRecDepth 100000 in
theorem alike_any (s t : ShT) (w : World) (hs : Ss w s.a s.l) (ht : Ss w t.a t.l) (hl : s.l.length ≤ maxLen) (hst : s.st = t.st) :
    Calls Tryz.prog 9 #[s.val, t.val] w fun e w' => e = .returned (.bool (decide (s.p = t.p ∧ s.k = t.k ∧ s.l = t.l))) ∧ Below w.heap.size w w' := by
  obtain ⟨st, p, k, a, c, l⟩ := s
  obtain ⟨st', p', k', a', c', l'⟩ := t
  simp only at hst
  subst hst
  have HB : Hid (Below w.heap.size w ((w.alloc (.cells #[.int .i64 st, .string p, .int .i64 k, .slice a l.length c] 24)).alloc (.cells #[.int .i64 st, .string p', .int .i64 k', .slice a' l'.length c'] 24))) := ((Below.refl _ _).alloc (Nat.le_refl _) _).alloc (by simp) _
  have HQ : Hid _ := refSame_any ⟨st, p, k, a, c, l⟩ ⟨st, p', k', a', c', l'⟩ _ (hs.below HB.out) (ht.below HB.out) hl
  go_enter Tryz.func9, Tryz.ntmps9
  go_wp2_with fail
  refine Calls.mono HQ.out ?_
  rintro e w' ⟨rfl, hb⟩
  go_wp2_with fail
  go_ret
  exact ⟨by simp, HB.out.trans (hb.mono HB.out.size)⟩

theorem grown_other {w w' : World} {base e n b : Nat} {v : Value} {xs : List Value} {o : Obj} {cs : Array Value} {t : TypeId} (hr : w.ownsRow base e 3 v n xs) (hg : (w.alloc o).grownBy w' v.ownBlock) (h : w.heap[b]? = some (.cells cs t (0, 0))) (ht : t ≠ e) : w'.heap[b]? = some (.cells cs t (0, 0)) := by
  rw [hg.block b (by simp; have := lt_of_blk h; omega) (fun he => ?_)]
  · exact new_old h _
  · obtain ⟨cur, hc⟩ := owns_kind hr he.symm
    rw [h] at hc
    injection hc with hc
    injection hc with _ h2 _
    exact ht h2
theorem owns_cap {w : World} {B e s n g cap : Nat} {xs : List Value} (h : w.ownsRow B e s (.slice (some ⟨g, 0, none⟩) n cap) n xs) : n ≤ cap := by
  rcases h.2 with ⟨h0, _⟩ | ⟨g', cap', cur, hv, _, hg, hn, _⟩
  · cases h0
  · cases hv
    exact hn
theorem wpList_app {w : World} {ops : Array Oper} {rest : List Oper} {o : Oper} {act : Act} {Q : Exit → Act → World → Prop} (hgd : o.guard = none) (s x : Operand)
    (ho : o.op = .call { callee := .builtin .append, args := #[s, x], argTypes := #[22, 22] }) (base : Nat) (v : Value) (n : Nat) (xs : List Value) (hs : act.eval s = v) (hown : w.ownsRow base 54 3 v n xs)
    (ad : Option Addr) (m c : Nat) (ys : List SeenT) (hx : act.eval x = .slice ad m c) (hm : m = ys.length) (hby : Ss w ad ys) (hn : ad = none → c = 0) (hlen : n + ys.length ≤ 1000000) (hB : base ≤ w.heap.size)
    (h : ∀ v' w', w'.ownsRow base 54 3 v' (n + ys.length) (xs ++ seCs ys) → w.grownBy w' v.ownBlock → wpList Tryz.prog ops Q rest (act.put o.dst v') w') : wpList Tryz.prog ops Q (o :: rest) act w := by
  obtain ⟨i0, hi, hz0, hz1, hz2⟩ := info_parts Tryz.infoS
  subst hm
  cases ad with
  | none =>
    have hc0 := hn rfl
    subst hc0
    have hys : ys = [] := by
      rcases hby with h | ⟨b, o, h, _⟩
      · exact h
      · cases h
    subst hys
    refine wpList_append_own_none hgd s x 22 ho base 54 i0 3 Tryz.underlying22 hi _ _ _ hs hown hx ?_
    have := h v w (by simpa [seCs] using hown) ⟨rfl, rfl, rfl, Nat.le_refl _, fun _ _ _ => rfl⟩
    exact this
  | some ad =>
    refine wpList_append_own_at _ hgd s x 22 ho base 54 i0 _ 3 40 Tryz.underlying22 hi hz0 hz1 hz2 rfl (by decide) v n xs hs hown ad ys.length c (seCs ys) hx (seCs_len _) (ss_news hby) (seCs_one _) (by unfold maxLen; omega) (by omega) hB ?_
    intro v' w' ho' hg' _ _
    exact h v' w' ho' hg'

end Go.Proofs.YtponpkfdkdnaeaaGreatDoor
