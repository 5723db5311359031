/-
  WireFinds: what the two lists make; helpers of the walk.
-/
import Derived.Test.YtdjibjmhjofedacWPlain
import Derived.Test.YtdjibjmhjofedacWPieces
namespace Go.Proofs.Ytdjibjmhjofedac
open Go.RowKit
set_option linter.unusedVariables false

theorem one_pcs {w : World} {a : Option Addr} {c : Nat} {ys : List Int} (hx : Bys w a ys) (hb : Byt ys) (hn : a = none → c = 0) :
    Pcs (w.alloc (.cells #[.slice a ys.length c] 26)) (some ⟨w.heap.size, 0, none⟩) [(a, c, ys)] := by
  have al : Below w.heap.size w (w.alloc (.cells #[.slice a ys.length c] 26)) := (Below.refl _ _).alloc (Nat.le_refl _) _
  refine ⟨.inr ⟨w.heap.size, 0, rfl, by simp, fun j p hp => ?_⟩, fun p hp => ?_⟩
  · have h := cell_one_new w (.slice a ys.length c) 26 j p.val (by
      match j, hp with
      | 0, h => simp at h; subst h; rfl
      | j + 1, h => simp at h)
    rw [addr_add] at h
    exact h
  · rw [List.mem_singleton] at hp
    subst hp
    exact ⟨hx.below al, hb, hn⟩
theorem one_body (a : Option Addr) (c : Nat) (ys : List Int) : bodyOf [(a, c, ys)] = ys := by simp [bodyOf]

/-- The bytes between, the body: of each i. -/
def segs (ps qs : List Pc) : List (List Int × List Int) := (List.range ps.length).map fun i => (plainL ((qs[i]?.map fun q => q.2.2).getD []), (ps[i]?.map fun p => p.2.2).getD [])
theorem segs_len (ps qs : List Pc) : (segs ps qs).length = ps.length := by simp [segs]
theorem segs_at {ps qs : List Pc} {k : Nat} {p : Pc} (h : ps[k]? = some p) : (segs ps qs)[k]? = some (plainL ((qs[k]?.map fun q => q.2.2).getD []), p.2.2) := by
  have hk : k < ps.length := (List.getElem?_eq_some_iff.1 h).1
  unfold segs
  rw [List.getElem?_map, List.getElem?_range hk]
  simp [h]
theorem segs_bodies (ps qs : List Pc) : (segs ps qs).map (·.2) = ps.map (fun p => p.2.2) := by
  apply List.ext_getElem?
  intro k
  rw [List.getElem?_map, List.getElem?_map]
  rcases Nat.lt_or_ge k ps.length with h | h
  · rw [segs_at (List.getElem?_eq_getElem h), List.getElem?_eq_getElem h]
    rfl
  · rw [List.getElem?_eq_none (by rw [segs_len]; exact h), List.getElem?_eq_none h]
    rfl
theorem segs_bound (ps qs : List Pc) : ∀ k, k ≤ ps.length → (allS ((segs ps qs).take k)).length ≤ (bodyOf (ps.take k)).length + (bodyOf (qs.take k)).length + 14 * k ∧ skS ((segs ps qs).take k) ≤ (bodyOf (qs.take k)).length
  | 0, _ => by simp [allS, skS]
  | k + 1, hk => by
    obtain ⟨h1, h2⟩ := segs_bound ps qs k (by omega)
    have hp : ps[k]? = some ps[k] := List.getElem?_eq_getElem (by omega)
    rw [allS_step (segs_at hp), skS_step (segs_at hp), body_step hp]
    simp only [List.length_append, plain_len, frame_len]
    cases hq : qs[k]? with
    | none =>
      have : qs.take (k + 1) = qs.take k := by rw [List.take_add_one, hq]; simp
      rw [this]
      simp only [Option.map_none, Option.getD_none, List.length_nil]
      omega
    | some q =>
      rw [body_step hq]
      simp only [Option.map_some, Option.getD_some, List.length_append]
      omega
theorem segs_right {w : World} {a a' : Option Addr} {ps qs : List Pc} (h : Pcs w a ps) (h' : Pcs w a' qs) (hb : (bodyOf ps).length ≤ 20000) : ∀ q ∈ segs ps qs, (∀ z ∈ q.1, z ≠ 197) ∧ Byt q.2 ∧ q.2.length ≤ 262144 ∧ Byt q.1 := by
  intro q hq
  obtain ⟨k, hk⟩ := List.getElem?_of_mem hq
  have hkl : k < ps.length := by have := (List.getElem?_eq_some_iff.1 hk).1; rw [segs_len] at this; exact this
  have hp : ps[k]? = some ps[k] := List.getElem?_eq_getElem hkl
  rw [segs_at hp] at hk
  cases hk
  refine ⟨plain_no _, (h.2 _ (List.getElem_mem hkl)).2.1, ?_, ?_⟩
  · have := body_le ps (k + 1)
    rw [body_step hp, List.length_append] at this
    show ps[k].2.2.length ≤ 262144
    omega
  · refine plain_byt ?_
    cases hq : qs[k]? with
    | none => intro z hz; simp at hz
    | some q => exact (h'.2 q (List.mem_of_getElem? hq)).2.1
theorem allS_byt : ∀ (L : List (List Int × List Int)), (∀ q ∈ L, Byt q.2 ∧ q.2.length ≤ 262144 ∧ Byt q.1) → Byt (allS L)
  | [], _ => by intro z hz; simp [allS] at hz
  | q :: L, h => by
    obtain ⟨h1, h2, h3⟩ := h q (.head _)
    have e : allS (q :: L) = q.1 ++ (frameL q.2 ++ allS L) := by unfold allS; simp
    rw [e]
    exact h3.append ((frame_byt h1 (by omega)).append (allS_byt L (fun p hp => h p (.tail _ hp))))

/-- The bodies found so far are some of all. -/
theorem dec_some (P R : List Int) : (dec P).1.length ≤ (dec (P ++ R)).1.length ∧ (dec P).2.1 ≤ (dec (P ++ R)).2.1 := by
  have := dec_append P R
  rw [this]
  exact ⟨by simp, by simp⟩

/-- A list of numbers. -/
def Its (w : World) (a : Option Addr) (zs : List Int) : Prop := zs = [] ∨ ∃ b o, a = some ⟨b, o, none⟩ ∧ b < w.heap.size ∧ ∀ (j : Nat) (z : Int), zs[j]? = some z → w.cell? ⟨b, o + j, none⟩ = some (.int .i64 z)

theorem owns_base {w : World} {base n : Nat} {e : TypeId} {v : Value} {vals : List Value} (h : w.ownsRow 0 e 1 v n vals) (hb : ∀ k, v.ownBlock = some k → base ≤ k) : w.ownsRow base e 1 v n vals :=
  ⟨h.1, h.2.imp id fun ⟨g, cap, cur, h1, _, h3⟩ => ⟨g, cap, cur, h1, hb g (by rw [h1]; rfl), h3⟩⟩

/-- append of a list of bodies to a list of its own. -/
theorem wpList_app2 {w : World} {ops : Array Oper} {rest : List Oper} {o : Oper} {act : Act} {Q : Exit → Act → World → Prop} (hgd : o.guard = none) (s x : Operand)
    (ho : o.op = .call { callee := .builtin .append, args := #[s, x], argTypes := #[22, 22] }) (base base' : Nat) (v lv : Value) (xs ys : List Value) (hs : act.eval s = v) (hown : w.ownsRow base 26 1 v xs.length xs)
    (hx : act.eval x = lv) (hl : w.ownsRow base' 26 1 lv ys.length ys) (h1 : ∀ u ∈ ys, u.oneCell' = true) (hlen : xs.length + ys.length ≤ 1000000) (hB : base ≤ w.heap.size)
    (h : ∀ v' w', w'.ownsRow base 26 1 v' (xs ++ ys).length (xs ++ ys) → w.grownBy w' v.ownBlock → (∀ k, v'.ownBlock = some k → v.ownBlock = some k ∨ w.heap.size ≤ k) → wpList Try.prog ops Q rest (act.put o.dst v') w') : wpList Try.prog ops Q (o :: rest) act w := by
  obtain ⟨i0, hi, hz0, hz1, hz2⟩ := info_parts info_body
  rcases hl.2 with ⟨rfl, h0⟩ | ⟨g, cap, cur, rfl, _, hg, hn, hc, hsz, ht⟩
  · obtain rfl : ys = [] := List.eq_nil_of_length_eq_zero h0
    refine wpList_append_own_none hgd s x 22 ho base 26 i0 1 Try.underlying22 hi _ _ _ hs hown hx ?_
    exact h v w (by rw [List.append_nil]; exact hown) ⟨rfl, rfl, rfl, Nat.le_refl _, fun _ _ _ => rfl⟩ (fun k hk => .inl hk)
  · refine wpList_plain hgd fun K hK' => ?_
    obtain ⟨v', w', hrun, r1, r2, r3⟩ := run_app_row (P := Try.prog) (ty := o.type) Try.underlying22 hi hz0 hz1 hz2 rfl (owns_zero hown) (m := ys.length) (c := cap) (ad := ⟨g, 0, none⟩) rfl (fun j u hj => by
      have hjl : j < ys.length := (List.getElem?_eq_some_iff.1 hj).1
      rw [addr_add, cell_blk hg, ← Array.getElem?_toList, Nat.zero_add]
      rw [← ht, List.getElem?_take, if_pos (by omega)] at hj
      exact hj) h1 hlen (by decide)
    unfold Oper.wp
    simp [execOp, ho, resolve, invoke, builtin, hs, hx, hrun, Result.andThen]
    exact hK' _ _ (h v' w' (owns_base r1 (fun k hk => by
      rcases r3 k hk with e | e
      · exact (owns_kind hown k e).2.1
      · omega)) r2 r3)

/-- Where WireFinds is: n bytes fed; L in the list of what was found. -/
structure FindI (w : World) (sb : Nat) (u : Value) (A : List Int) (n : Nat) (f : Value) (L : List (Value × List Int)) (rv fv : Value) (T fs : List (Value × List Int)) (W : World) : Prop where
  st : StP W sb rv fv (A.take n) T fs
  row : W.ownsRow w.heap.size 5 1 u A.length (bv A)
  outA : Out W sb rv fv u
  fnd : W.ownsRow w.heap.size 26 1 f L.length (L.map (·.1))
  outF : Out W sb rv fv f
  bel : Below w.heap.size w W
  sbb : w.heap.size ≤ sb
  rvb : ∀ k, rv.ownBlock = some k → w.heap.size ≤ k
  fvb : ∀ k, fv.ownBlock = some k → w.heap.size ≤ k

theorem FindI.start {w W : World} {u : Value} {A : List Int} (hr : W.ownsRow w.heap.size 5 1 u A.length (bv A)) (hb : Below w.heap.size w W) :
    FindI w W.heap.size u A 0 (.slice none 0 0) [] (.slice none 0 0) (.slice none 0 0) [] [] (W.alloc (.cells #[.slice none 0 0, .slice none 0 0, .int .i64 0] 33)) := by
  refine ⟨StP.zero W, owns_fr hr (Fr.of_below ((Below.refl _ W).alloc (Nat.le_refl _) _) (fun _ => False)) (fun _ _ h => h), fun k hk => ?_, World.ownsRow_nil _ _ _ _, fun k hk => (by cases hk), hb.alloc hb.size _, hb.size, fun k hk => (by cases hk), fun k hk => (by cases hk)⟩
  have := (owns_kind hr k hk).1
  exact ⟨by rw [World.size_alloc]; omega, by omega, (by intro e; cases e), (by intro e; cases e)⟩

theorem FindI.fed {w W W' : World} {sb n n' : Nat} {u f rv fv rv' fv' : Value} {A ys : List Int} {L T fs gs : List (Value × List Int)} (h : FindI w sb u A n f L rv fv T fs W) (hF : Fed W sb rv fv ((A.take n).drop (dec (A.take n)).2.2) fs (dec (A.take n)).2.1 ys W' rv' fv' gs) (hy : A.take n ++ ys = A.take n') :
    FindI w sb u A n' f L rv' fv' T (fs ++ gs) W' := by
  have hs := h.bel.size
  refine ⟨by rw [← hy]; exact h.st.fed hF, owns_fr h.row hF.fr h.outA.not_fed, h.outA.fed hF, owns_fr h.fnd hF.fr h.outF.not_fed, h.outF.fed hF, h.bel.trans (hF.fr.below _ hs (fun k e => ?_)), h.sbb, fun k hk => ?_, fun k hk => ?_⟩
  · rcases e with e | e | e
    · rw [e]; exact h.sbb
    · exact h.rvb k e
    · exact h.fvb k e
  · rcases hF.rvf k hk with e | e
    · exact h.rvb k e
    · omega
  · rcases hF.fvf k hk with e | e
    · exact h.fvb k e
    · omega

theorem FindI.took {w W W' : World} {sb n : Nat} {u f rv fv fv' lv : Value} {A : List Int} {L T fs : List (Value × List Int)} {most : Int} {k : Nat} (h : FindI w sb u A n f L rv fv T fs W) (hT : Tk W sb rv fv ((A.take n).drop (dec (A.take n)).2.2) fs (dec (A.take n)).2.1 most k k lv fv' W') :
    FindI w sb u A n f L rv fv' (T ++ fs.take k) (fs.drop k) W' := by
  refine ⟨h.st.took hT, owns_fr h.row hT.fr h.outA.not_ours, h.outA.took hT, owns_fr h.fnd hT.fr h.outF.not_ours, h.outF.took hT, h.bel.trans (hT.fr.below _ h.bel.size (fun k e => ?_)), h.sbb, h.rvb, fun k hk => h.fvb k (hT.sub k hk)⟩
  rcases e with e | e
  · rw [e]; exact h.sbb
  · exact h.fvb k e

theorem FindI.app {w W W' : World} {sb n : Nat} {u f f' rv fv : Value} {A : List Int} {L M T fs : List (Value × List Int)} (h : FindI w sb u A n f L rv fv T fs W) (hr : W'.ownsRow w.heap.size 26 1 f' (L.map (·.1) ++ M.map (·.1)).length (L.map (·.1) ++ M.map (·.1))) (hg : W.grownBy W' f.ownBlock) (hf : ∀ k, f'.ownBlock = some k → f.ownBlock = some k ∨ W.heap.size ≤ k) :
    FindI w sb u A n f' (L ++ M) rv fv T fs W' := by
  have hfr := Fr.of_grown hg
  have hs := hg.size
  have ho : ∀ {v : Value} {n base : Nat} {vals : List Value}, W.ownsRow base 5 1 v n vals → ∀ b, v.ownBlock = some b → ¬ f.ownBlock = some b := fun hv b hb e => by
    obtain ⟨_, _, cur, hc⟩ := owns_kind hv b hb
    obtain ⟨_, _, cur', hc'⟩ := owns_kind h.fnd b e
    rw [hc] at hc'; cases hc'
  have up : ∀ {v : Value}, Out W sb rv fv v → Out W' sb rv fv v := fun hv k hk => by
    obtain ⟨h1, h2⟩ := hv k hk
    exact ⟨by omega, h2⟩
  refine ⟨⟨h.st.st.fr hfr (fun e => (h.outF sb e).2.1 rfl) (ho h.st.st.room) (fun b hb e => (h.outF b e).2.2.2 hb) (fun p hp => ho (h.st.st.each p hp).1), h.st.all, fun p hp => ⟨owns_fr (h.st.tk p hp).1 hfr (ho (h.st.tk p hp).1), up (h.st.tk p hp).2⟩⟩,
    owns_fr h.row hfr (ho h.row), up h.outA, ?_, fun k hk => ?_, h.bel.trans (hfr.below _ h.bel.size (fun k e => (owns_kind h.fnd k e).2.1)), h.sbb, h.rvb, h.fvb⟩
  · rw [List.length_append, List.map_append]
    rw [List.length_append, List.length_map, List.length_map] at hr
    exact hr
  · have hlt := (owns_kind hr k hk).1
    rcases hf k hk with e | e
    · exact ⟨hlt, (h.outF k e).2⟩
    · have h1 := h.st.st.lt
      refine ⟨hlt, by omega, fun e' => ?_, fun e' => ?_⟩
      · have := (owns_kind h.st.st.room k e').1; omega
      · have := (h.st.st.fnd.lt k e').1; omega

theorem FindI.few {w W : World} {sb n : Nat} {u f rv fv : Value} {A : List Int} {L T fs : List (Value × List Int)} (h : FindI w sb u A n f L rv fv T fs W) : T.length + fs.length ≤ (dec A).1.length ∧ (dec (A.take n)).2.1 ≤ (dec A).2.1 := by
  have h1 := dec_some (A.take n) (A.drop n)
  rw [List.take_append_drop] at h1
  have h2 := congrArg List.length h.st.all
  rw [List.length_append, List.length_map, List.length_map] at h2
  omega
theorem below_undrew {w w' : World} (h : Below w.drew.heap.size w.drew w') : Below w.heap.size w w' := ⟨h.os, h.tape, h.output, h.size, h.block⟩

/-- All is fed, all is taken. -/
theorem FindI.final {w W : World} {sb : Nat} {u f rv fv : Value} {A : List Int} {L : List (Value × List Int)} {ps : List Pc} (h : FindI w sb u A A.length f L rv fv L [] W) (hd : (dec A).1 = ps.map (fun p => p.2.2)) :
    ∃ fa fc, f = .slice fa ps.length fc ∧ (∀ (k : Nat) (p : Pc), ps[k]? = some p → ∃ g ta tc, fa = some ⟨g, 0, none⟩ ∧ W.cell? ⟨g, k, none⟩ = some (.slice ta p.2.2.length tc) ∧ Bys W ta p.2.2) ∧ W.cell? ⟨sb, 2, none⟩ = some (.int .i64 ((dec A).2.1 : Nat)) := by
  have hall := h.st.all
  have hc2 := h.st.st.c2
  rw [List.take_length] at hall hc2
  rw [hd, List.map_nil, List.append_nil] at hall
  have hl : L.length = ps.length := by have := congrArg List.length hall; simpa using this
  have hrow := h.fnd
  rw [hl] at hrow
  rcases hrow.2 with ⟨h1, h2⟩ | ⟨g, cap, cur, h1, _, hg, _, _, _, ht⟩
  · obtain rfl : ps = [] := List.eq_nil_of_length_eq_zero h2
    exact ⟨none, 0, h1, (fun k p hp => by cases hp), hc2⟩
  · refine ⟨_, cap, h1, fun k p hp => ?_, hc2⟩
    have hk : k < L.length := by rw [hl]; exact (List.getElem?_eq_some_iff.1 hp).1
    have hLk : L[k]? = some L[k] := List.getElem?_eq_getElem hk
    have hy : L[k].2 = p.2.2 := by
      have h3 : (L.map (·.2))[k]? = (ps.map (fun p => p.2.2))[k]? := by rw [hall]
      rw [List.getElem?_map, List.getElem?_map, hLk, hp] at h3
      exact Option.some.inj h3
    have hown := (h.st.tk L[k] (List.getElem_mem hk)).1
    rw [hy] at hown
    obtain ⟨ta, tc, hv, hby, _⟩ := bys_of_owns hown
    refine ⟨g, ta, tc, rfl, ?_, hby⟩
    rw [cell_blk hg, ← Array.getElem?_toList]
    have h4 : (cur.toList.take (ps.length * 1))[k]? = some L[k].1 := by rw [ht, List.getElem?_map, hLk]; rfl
    rw [List.getElem?_take, if_pos (by omega)] at h4
    rw [h4, hv]

/-- A piece of the bytes, as a slice of them. -/
theorem piece_bys {w : World} {base at' n : Nat} {g cap : Nat} {A : List Int} (h : w.ownsRow base 5 1 (.slice (some ⟨g, 0, none⟩) A.length cap) A.length (bv A)) : Bys w (some ⟨g, at', none⟩) ((A.drop at').take n) := by
  obtain ⟨a, c, hv, hb, _⟩ := bys_of_owns h
  obtain ⟨rfl, -, rfl⟩ := Value.slice.inj hv
  have hlt : g < w.heap.size := (owns_kind h g rfl).1
  have := (hb.drop at' hlt).take n
  rwa [Nat.zero_add] at this
end Go.Proofs.Ytdjibjmhjofedac
