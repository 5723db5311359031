/-
  line: own.go: lists that are left as they are.
-/
import Derived.Test.YtfcobhgjkibdgaaLOwE
namespace Go.Proofs.Ytfcobhgjkibdgaa
open Go.RowKit Go.Maps
set_option linter.unusedVariables false
set_option linter.unusedSimpArgs false

theorem wpList_rowM {tS tE sz bt : Nat} {z : Value} (hu : Try.prog.underlying tS = some (.slice tE)) (hinfo : (Try.prog.info? tE).map (fun i => (i.zero, i.size, i.bytes)) = some (some z, sz, bt)) (hzs : z.cells.size = sz) (h0 : 0 < sz)
    {w : World} {ops : Array Oper} {rest : List Oper} {o : Oper} {act : Act} {Q : Exit → Act → World → Prop} (hgd : o.guard = none) (s x : Operand) (ho : o.op = .call { callee := .builtin .append, args := #[s, x], argTypes := #[tS, tS] })
    (base : Nat) (v : Value) (n : Nat) (xs : List Value) (hs : act.eval s = v) (hown : w.ownsRow base tE sz v n xs) (g m c : Nat) (news : List Value) (hx : act.eval x = .slice (some ⟨g, 0, none⟩) m c) (hg : w.heap[g]? = some (.cells news.toArray tE (0, 0))) (hl : news.length = m * sz) (h1 : ∀ u ∈ news, u.oneCell' = true)
    (hb1 : n + m ≤ maxLen) (hb2 : (n + m) * bt ≤ 140737488355328) (hB : base ≤ w.heap.size)
    (h : ∀ v' w', w'.ownsRow base tE sz v' (n + m) (xs ++ news) → w.grownBy w' v.ownBlock → (v'.ownBlock = v.ownBlock ∨ v'.ownBlock = some w.heap.size) → wpList Try.prog ops Q rest (act.put o.dst v') w') : wpList Try.prog ops Q (o :: rest) act w := by
  cases hi : Try.prog.info? tE with
  | none => rw [hi] at hinfo; cases hinfo
  | some i0 =>
    rw [hi] at hinfo
    simp only [Option.map_some, Option.some.injEq, Prod.mk.injEq] at hinfo
    refine wpList_append_own_at _ hgd s x tS ho base tE i0 _ sz bt hu hi hinfo.1 hinfo.2.1 hinfo.2.2 hzs h0 v n xs hs hown ⟨g, 0, none⟩ m c news hx hl (fun j u hj => ?_) h1 hb1 hb2 hB ?_
    · rw [addr_add, Nat.zero_add, cell_blkD hg]
      simpa using hj
    · intro v' w' ho' hg' _ hat'
      exact h v' w' ho' hg' hat'
theorem Try.infoInts : (Try.prog.info? 28).map (fun i => (i.zero, i.size, i.bytes)) = some (some (.slice none 0 0), 1, 24) := by kernel_rfl
abbrev LsRow (w : World) (B : Nat) (v : Value) (us : List Value) : Prop := w.ownsRow B 28 1 v us.length us
/-- These lists have these numbers. -/
def Each (w : World) (B : Nat) (us : List Value) (ls : List (List Int)) : Prop := us.length = ls.length ∧ ∀ (k : Nat) (u : Value) (xs : List Int), us[k]? = some u → ls[k]? = some xs → InsOwn w B u xs
theorem Each.mono {w w' : World} {B : Nat} {us : List Value} {ls : List (List Int)} (h : Each w B us ls) (hk : ∀ {u : Value} {xs : List Int}, InsOwn w B u xs → InsOwn w' B u xs) : Each w' B us ls := ⟨h.1, fun k u xs hu hx => hk (h.2 k u xs hu hx)⟩
theorem Each.push {w : World} {B : Nat} {us : List Value} {ls : List (List Int)} (h : Each w B us ls) {u : Value} {xs : List Int} (hu : InsOwn w B u xs) : Each w B (us ++ [u]) (ls ++ [xs]) := by
  refine ⟨by rw [List.length_append, List.length_append, h.1]; rfl, fun k v ys hv hy => ?_⟩
  rcases Nat.lt_or_ge k us.length with hk | hk
  · rw [List.getElem?_append_left hk] at hv
    rw [List.getElem?_append_left (by rw [← h.1]; exact hk)] at hy
    exact h.2 k v ys hv hy
  · rw [List.getElem?_append_right hk] at hv
    rw [List.getElem?_append_right (by rw [← h.1]; exact hk), ← h.1] at hy
    cases hkk : k - us.length with
    | zero => rw [hkk] at hv hy; simp at hv hy; rw [← hv, ← hy]; exact hu
    | succ n => rw [hkk] at hv; simp at hv
/-- Each in a block of its own. -/
def Nd (us : List Value) : Prop := ∀ (i j : Nat) (u v : Value) (b : Nat), us[i]? = some u → us[j]? = some v → u.ownBlock = some b → v.ownBlock = some b → i = j
theorem Nd.nil : Nd [] := fun i j u v b h => by simp at h
theorem Nd.push {us : List Value} (h : Nd us) {u : Value} {s : Nat} (hs : ∀ (k : Nat) (v : Value) (b : Nat), us[k]? = some v → v.ownBlock = some b → b < s) (hu : ∀ b, u.ownBlock = some b → s ≤ b) : Nd (us ++ [u]) := by
  have hat : ∀ {k : Nat} {y : Value}, (us ++ [u])[k]? = some y → us[k]? = some y ∨ (k = us.length ∧ y = u) := fun {k y} hy => by
    rcases Nat.lt_or_ge k us.length with hk | hk
    · rw [List.getElem?_append_left hk] at hy; exact .inl hy
    · rw [List.getElem?_append_right hk] at hy
      cases hkk : k - us.length with
      | zero => rw [hkk] at hy; simp at hy; exact .inr ⟨by omega, hy.symm⟩
      | succ n => rw [hkk] at hy; simp at hy
  intro i j a c b ha hc hab hcb
  rcases hat ha with ha' | ⟨ia, ea⟩
  · rcases hat hc with hc' | ⟨jc, ec⟩
    · exact h i j a c b ha' hc' hab hcb
    · rw [ec] at hcb
      have := hs i a b ha' hab
      have := hu b hcb
      omega
  · rw [ea] at hab
    rcases hat hc with hc' | ⟨jc, ec⟩
    · have := hs j c b hc' hcb
      have := hu b hab
      omega
    · omega
/-- A line, the lists that it told, and copies of them. -/
structure Hd (w0 w : World) (Ka K : Nat → Prop) (L : LnT) (p av wv : Value) (us cs : List Value) (ls lw : List (List Int)) : Prop where
  chg : Chg w0 w Ka
  at1 : AtL w K L p
  new1 : ∀ j, K j → Ka j ∨ w0.heap.size ≤ j
  row : LsRow w w0.heap.size av us
  rowW : LsRow w w0.heap.size wv cs
  ap : ∀ b, av.ownBlock = some b → wv.ownBlock ≠ some b
  each : Each w w0.heap.size us ls
  eachW : Each w w0.heap.size cs lw
  nd : Nd us
theorem Hd.below {w0 w w' : World} {Ka K : Nat → Prop} {L : LnT} {p av wv : Value} {us cs : List Value} {ls lw : List (List Int)} (h : Hd w0 w Ka K L p av wv us cs ls lw) (hb : Below w.heap.size w w') : Hd w0 w' Ka K L p av wv us cs ls lw :=
  ⟨h.chg.trans (Chg.of_below hb _), h.at1.keep (Kp.of_below hb _), h.new1, owns_below h.row hb, owns_below h.rowW hb, h.ap, h.each.mono (fun hu => owns_below hu hb), h.eachW.mono (fun hu => owns_below hu hb), h.nd⟩
theorem Hd.call {w0 w w' : World} {Ka K K' : Nat → Prop} {L L' : LnT} {p av wv : Value} {us cs : List Value} {ls lw : List (List Int)} (h : Hd w0 w Ka K L p av wv us cs ls lw) (hE : LnE AtL w K L' p w' K') : Hd w0 w' Ka K' L' p av wv us cs ls lw := by
  refine ⟨chg_kn h.chg hE.chg h.new1, hE.at', fun j hj => ?_, row_at h.at1 hE h.row (by decide), row_at h.at1 hE h.rowW (by decide), h.ap, h.each.mono (fun hu => row_at h.at1 hE hu (by decide)), h.eachW.mono (fun hu => row_at h.at1 hE hu (by decide)), h.nd⟩
  rcases hE.new j hj with h1 | h1
  · exact h.new1 j h1
  · exact .inr (Nat.le_trans h.chg.size h1)
theorem Hd.lt {w0 w : World} {Ka K : Nat → Prop} {L : LnT} {p av wv : Value} {us cs : List Value} {ls lw : List (List Int)} (h : Hd w0 w Ka K L p av wv us cs ls lw) : ∀ (k : Nat) (v : Value) (b : Nat), us[k]? = some v → v.ownBlock = some b → b < w.heap.size := fun k v b hv hb => by
  have hk := (List.getElem?_eq_some_iff.1 hv).1
  have hl : ls[k]? = some (ls[k]'(by rw [← h.each.1]; exact hk)) := List.getElem?_eq_getElem _
  exact (row_block (h.each.2 k v _ hv hl) b hb).2
/-- A row of lists grows. -/
theorem Hd.grow {w0 w w' : World} {Ka K : Nat → Prop} {L : LnT} {p av wv av' : Value} {us cs us' : List Value} {ls lw ls' : List (List Int)} (h : Hd w0 w Ka K L p av wv us cs ls lw) (hr : LsRow w' w0.heap.size av' us') (hg : w.grownBy w' av.ownBlock) (ho : av'.ownBlock = av.ownBlock ∨ av'.ownBlock = some w.heap.size) (he : Each w w0.heap.size us' ls') (hn : Nd us') : Hd w0 w' Ka K L p av' wv us' cs ls' lw := by
  have hc := Chg.grown hg
  have hkd := Kind.own h.row
  refine ⟨chg_kn h.chg hc (fun j e => .inr (row_block h.row j e).1), h.at1.keep (Kp.of_chg hc (fun j _ hj e => by obtain ⟨cur, hcu⟩ := row_kind h.row j e; exact absurd (h.at1.kind hj hcu) (by decide))), h.new1, hr, row_chg h.rowW hc (fun j hj e => h.ap j e hj), fun b hb hw => ?_, he.mono (fun hu => row_other hu hc hkd (by decide)), h.eachW.mono (fun hu => row_other hu hc hkd (by decide)), hn⟩
  rcases ho with ho | ho
  · rw [ho] at hb; exact h.ap b hb hw
  · rw [ho] at hb; cases hb; have := (row_block h.rowW _ hw).2; omega
theorem Hd.growW {w0 w w' : World} {Ka K : Nat → Prop} {L : LnT} {p av wv wv' : Value} {us cs cs' : List Value} {ls lw lw' : List (List Int)} (h : Hd w0 w Ka K L p av wv us cs ls lw) (hr : LsRow w' w0.heap.size wv' cs') (hg : w.grownBy w' wv.ownBlock) (ho : wv'.ownBlock = wv.ownBlock ∨ wv'.ownBlock = some w.heap.size) (he : Each w w0.heap.size cs' lw') : Hd w0 w' Ka K L p av wv' us cs' ls lw' := by
  have hc := Chg.grown hg
  have hkd := Kind.own h.rowW
  refine ⟨chg_kn h.chg hc (fun j e => .inr (row_block h.rowW j e).1), h.at1.keep (Kp.of_chg hc (fun j _ hj e => by obtain ⟨cur, hcu⟩ := row_kind h.rowW j e; exact absurd (h.at1.kind hj hcu) (by decide))), h.new1, row_chg h.row hc (fun j hj e => h.ap j hj e), hr, fun b hb hw => ?_, h.each.mono (fun hu => row_other hu hc hkd (by decide)), he.mono (fun hu => row_other hu hc hkd (by decide)), h.nd⟩
  rcases ho with ho | ho
  · rw [ho] at hw; exact h.ap b hb hw
  · rw [ho] at hw; cases hw; have := (row_block h.row _ hb).2; omega
/-- The lists are written full, one behind the other. -/
structure Fd (w0 w4 w : World) (Ka : Nat → Prop) (av bv : Value) (us : List Value) (ls : List (List Int)) (bk : List BkT) (r : Nat) : Prop where
  chg : Chg w0 w Ka
  row : LsRow w w0.heap.size av us
  rest : ∀ (k : Nat) (u : Value) (xs : List Int), r ≤ k → us[k]? = some u → ls[k]? = some xs → InsOwn w w0.heap.size u xs
  book : BkRow w w0.heap.size bv bk
  each : ∀ b ∈ bk, BkE w b
  small : ∀ b ∈ bk, b.Sm
  blk : ∀ b ∈ bk, ∀ j, BkB b j → (∃ (k : Nat) (u : Value), k < r ∧ us[k]? = some u ∧ u.ownBlock = some j) ∨ w4.heap.size ≤ j
  size : w4.heap.size ≤ w.heap.size
theorem Fd.start {w0 w : World} {Ka K : Nat → Prop} {L : LnT} {p av wv : Value} {us cs : List Value} {ls lw : List (List Int)} (h : Hd w0 w Ka K L p av wv us cs ls lw) : Fd w0 w w Ka av (.slice none 0 0) us ls [] 0 :=
  ⟨h.chg, h.row, fun k u xs _ hu hx => h.each.2 k u xs hu hx, World.ownsRow_nil _ _ _ _, (fun b hb => by cases hb), (fun b hb => by cases hb), (fun b hb => by cases hb), Nat.le_refl _⟩
theorem Fd.below {w0 w4 w w' : World} {Ka : Nat → Prop} {av bv : Value} {us : List Value} {ls : List (List Int)} {bk : List BkT} {r : Nat} (h : Fd w0 w4 w Ka av bv us ls bk r) (hb : Below w.heap.size w w') : Fd w0 w4 w' Ka av bv us ls bk r :=
  ⟨h.chg.trans (Chg.of_below hb _), owns_below h.row hb, fun k u xs hk hu hx => owns_below (h.rest k u xs hk hu hx) hb, owns_below h.book hb, fun b hbk => (h.each b hbk).keep (Kp.of_below hb _), h.small, h.blk, Nat.le_trans h.size hb.size⟩
theorem Fd.turn {w0 w4 w w' : World} {Ka : Nat → Prop} {av bv : Value} {us : List Value} {ls : List (List Int)} {bk : List BkT} {r : Nat} (h : Fd w0 w4 w Ka av bv us ls bk r) (hnd : Nd us) (h4 : ∀ (k : Nat) (v : Value) (b : Nat), us[k]? = some v → v.ownBlock = some b → b < w4.heap.size) {u : Value} {xs : List Int} (hu : us[r]? = some u) (hx : ls[r]? = some xs) (hc : Chg w w' (fun j => u.ownBlock = some j)) : Fd w0 w4 w' Ka av bv us ls bk (r + 1) := by
  have hr := h.rest r u xs (Nat.le_refl _) hu hx
  refine ⟨chg_kn h.chg hc (fun j e => .inr (row_block hr j e).1), row_other h.row hc (Kind.own hr) (by decide), fun k v ys hk hv hy => ?_, row_other h.book hc (Kind.own hr) (by decide), fun b hb => (h.each b hb).keep (Kp.of_chg hc (fun j _ hj e => ?_)), h.small, fun b hb j hj => ?_, Nat.le_trans h.size hc.size⟩
  · exact row_chg (h.rest k v ys (by omega) hv hy) hc (fun j hj e => by have := hnd r k u v j hu hv e hj; omega)
  · rcases h.blk b hb j hj with ⟨k, v, hk, hv, hvb⟩ | h1
    · have := hnd k r v u j hv hu hvb e
      omega
    · have := h4 r u j hu e
      omega
  · rcases h.blk b hb j hj with ⟨k, v, hk, hv, hvb⟩ | h1
    · exact .inl ⟨k, v, by omega, hv, hvb⟩
    · exact .inr h1
theorem Fd.push {w0 w4 w w' : World} {Ka : Nat → Prop} {av bv bv' : Value} {us : List Value} {ls : List (List Int)} {bk : List BkT} {r : Nat} {x : BkT} (h : Fd w0 w4 w Ka av bv us ls bk r) (hr : w'.ownsRow w0.heap.size 81 3 bv' (bk.length + 1) (bk.flatMap BkT.cells ++ x.cells)) (hg : w.grownBy w' bv.ownBlock) (hx : BkE w x) (hs : x.Sm) (hb : ∀ j, BkB x j → (∃ (k : Nat) (u : Value), k < r ∧ us[k]? = some u ∧ u.ownBlock = some j) ∨ w4.heap.size ≤ j) : Fd w0 w4 w' Ka av bv' us ls (bk ++ [x]) r := by
  have hc := Chg.grown hg
  have hkd := Kind.own h.book
  have he : ∀ {b : BkT}, BkE w b → BkE w' b := fun hb => ⟨row_other hb.l hc hkd (by decide), row_other hb.g hc hkd (by decide)⟩
  refine ⟨chg_kn h.chg hc (fun j e => .inr (row_block h.book j e).1), row_other h.row hc hkd (by decide), fun k u xs hk hu hy => row_other (h.rest k u xs hk hu hy) hc hkd (by decide), ?_, fun b hbk => ?_, fun b hbk => ?_, fun b hbk => ?_, Nat.le_trans h.size hc.size⟩
  · show World.ownsRow _ _ _ _ _ _ _
    rw [List.length_append, List.flatMap_append]
    simpa using hr
  · rcases List.mem_append.1 hbk with hbk | hbk
    · exact he (h.each b hbk)
    · obtain rfl : b = x := by simpa using hbk
      exact he hx
  · rcases List.mem_append.1 hbk with hbk | hbk
    · exact h.small b hbk
    · obtain rfl : b = x := by simpa using hbk
      exact hs
  · rcases List.mem_append.1 hbk with hbk | hbk
    · exact h.blk b hbk
    · obtain rfl : b = x := by simpa using hbk
      exact hb
end Go.Proofs.Ytfcobhgjkibdgaa
