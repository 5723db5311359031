/-
  PlaceOwn: two heaps of lists beside one another.
-/
import Derived.Test.YtblhenblibdjoabDoorGivenGrow
import Derived.Test.YtblhenblibdjoabDoorJoin
namespace Go.Proofs.YtblhenblibdjoabDoor
open Go.RowKit

/-- Both, and what lay before them. -/
structure Hold (w W : World) (hb gb : Nat) (lv wv : Value) (ls ws : List Rw) (lv2 wv2 : Value) (ls2 ws2 : List Rw) : Prop where
  one : HeldAt W w.heap.size hb lv wv ls ws
  two : HeldAt W w.heap.size gb lv2 wv2 ls2 ws2
  ne : hb ≠ gb
  a1 : Apart lv lv2
  a2 : Apart lv wv2
  a3 : Apart wv lv2
  a4 : Apart wv wv2
  nd1 : (blks ls).Nodup
  nd2 : (blks ls2).Nodup
  dis : ∀ k ∈ blks ls2, k ∉ blks ls ∧ k ∉ blks ws
  e1 : ws.map Prod.snd = ls.map Prod.snd
  e2 : ws2.map Prod.snd = ls2.map Prod.snd
  len1 : ∀ r ∈ ls, r.2.length ≤ 100
  len2 : ∀ r ∈ ls2, r.2.length ≤ 100
  bel : Below w.heap.size w W

variable {w W W' : World} {hb gb : Nat} {lv wv lv2 wv2 : Value} {ls ws ls2 ws2 : List Rw}

theorem Hold.below (h : Hold w W hb gb lv wv ls ws lv2 wv2 ls2 ws2) (hbel : Below W.heap.size W W') : Hold w W' hb gb lv wv ls ws lv2 wv2 ls2 ws2 :=
  ⟨h.one.below hbel, h.two.below hbel, h.ne, h.a1, h.a2, h.a3, h.a4, h.nd1, h.nd2, h.dis, h.e1, h.e2, h.len1, h.len2, trans2 h.bel hbel⟩

theorem blks_lt {B : Nat} {rs : List Rw} (h : ∀ r ∈ rs, Rok W B r) : ∀ k ∈ blks rs, k < W.heap.size := fun k hk => by
  obtain ⟨r, hr, hk'⟩ := List.mem_filterMap.1 hk
  exact ((h r hr).lt k hk').2
theorem blks_ge {B : Nat} {rs : List Rw} (h : ∀ r ∈ rs, Rok W B r) : ∀ k ∈ blks rs, B ≤ k := fun k hk => by
  obtain ⟨r, hr, hk'⟩ := List.mem_filterMap.1 hk
  exact ((h r hr).lt k hk').1
theorem blks_snoc (rs : List Rw) (r : Rw) : blks (rs ++ [r]) = blks rs ++ (r.1.ownBlock).toList := by
  unfold blks
  rw [List.filterMap_append]
  cases h : r.1.ownBlock with
  | none => simp [h]
  | some k => simp [h]
theorem mem_snoc {rs : List Rw} {r : Rw} {k : Nat} (h : k ∈ blks (rs ++ [r])) : k ∈ blks rs ∨ r.1.ownBlock = some k := by
  rw [blks_snoc] at h
  rcases List.mem_append.1 h with h | h
  · exact .inl h
  · cases e : r.1.ownBlock with
    | none => rw [e] at h; cases h
    | some j => rw [e] at h; simp at h; exact .inr (by rw [h])
theorem nodup_snoc {rs : List Rw} {r : Rw} (h : (blks rs).Nodup) (hr : ∀ k, r.1.ownBlock = some k → k ∉ blks rs) : (blks (rs ++ [r])).Nodup := by
  rw [blks_snoc]
  cases e : r.1.ownBlock with
  | none => simpa using h
  | some j =>
    rw [show (some j).toList = [j] from rfl]
    rw [List.nodup_append]
    refine ⟨h, by simp, fun a ha b hb' => ?_⟩
    simp at hb'
    subst hb'
    intro e'
    subst e'
    exact hr _ e ha
theorem snd_snoc {xs ys : List Rw} {a b : Rw} (h : xs.map Prod.snd = ys.map Prod.snd) (hab : a.2 = b.2) : (xs ++ [a]).map Prod.snd = (ys ++ [b]).map Prod.snd := by
  rw [List.map_append, List.map_append, h]
  simp [hab]

/-- What one of them may turn leaves the other's blocks. -/
theorem other_chg {S : Nat → Prop} {B hb gb : Nat} (H : HeldAt W B hb lv wv ls ws) (G : HeldAt W B gb lv2 wv2 ls2 ws2) (hne : hb ≠ gb) (a1 : Apart lv lv2) (a2 : Apart lv wv2) (a3 : Apart wv lv2) (a4 : Apart wv wv2)
    (hc : Chg W W' S) (hS : ∀ k, S k → k = hb ∨ lv.ownBlock = some k ∨ wv.ownBlock = some k) : HeldAt W' B gb lv2 wv2 ls2 ws2 := by
  have hgl := G.hb_ne
  have hhl := H.hb_ne
  refine G.chg hc (fun hs => ?_) (fun k hk hs => ?_) (fun k hk hs => ?_) (fun k hk hs => ?_) (fun k hk hs => ?_)
  · rcases hS _ hs with e | e | e
    · exact hne e.symm
    · obtain ⟨c', hc'⟩ := owns_kind H.lo e; exact absurd (kind_ne hc' G.blk) (by decide)
    · obtain ⟨c', hc'⟩ := owns_kind H.wo e; exact absurd (kind_ne hc' G.blk) (by decide)
  · rcases hS _ hs with e | e | e
    · subst e; obtain ⟨c', hc'⟩ := owns_kind G.lo hk; exact absurd (kind_ne hc' H.blk) (by decide)
    · exact a1 k e hk
    · exact a3 k e hk
  · rcases hS _ hs with e | e | e
    · subst e; obtain ⟨c', hc'⟩ := owns_kind G.wo hk; exact absurd (kind_ne hc' H.blk) (by decide)
    · exact a2 k e hk
    · exact a4 k e hk
  · obtain ⟨r, hr, hk'⟩ := List.mem_filterMap.1 hk
    have := H.row_ne (G.lrows r hr) hk'
    rcases hS _ hs with e | e | e
    · exact this.1 e
    · exact this.2.1 e
    · exact this.2.2 e
  · obtain ⟨r, hr, hk'⟩ := List.mem_filterMap.1 hk
    have := H.row_ne (G.wrows r hr) hk'
    rcases hS _ hs with e | e | e
    · exact this.1 e
    · exact this.2.1 e
    · exact this.2.2 e

theorem own_ge {B n : Nat} {e : TypeId} {v : Value} {xs : List Value} (h : W.ownsRow B e 1 v n xs) : ∀ k, v.ownBlock = some k → k < W.heap.size := fun k hk => (h.lt k hk).2

/-- One more list in the first. -/
theorem Hold.add1 (h : Hold w W hb gb lv wv ls ws lv2 wv2 ls2 ws2) {u : Value} {xs : List ByteArray} (ha : Added W w.heap.size hb lv wv ls ws u xs W') (hu : ∀ k, u.ownBlock = some k → k ∉ blks ls ∧ k ∉ blks ls2) (hx : xs.length ≤ 100) :
    ∃ lv' wv' c, Hold w W' hb gb lv' wv' (ls ++ [(u, xs)]) (ws ++ [(c, xs)]) lv2 wv2 ls2 ws2 ∧ (∀ k, c.ownBlock = some k → W.heap.size ≤ k) ∧ (∀ {B n : Nat} {v : Value} {ys : List Value}, W.ownsRow B 9 1 v n ys → W'.ownsRow B 9 1 v n ys) := by
  obtain ⟨lv', wv', c, H', ml, mw, hc, hch⟩ := ha
  have l2 := own_ge h.two.lo
  have w2 := own_ge h.two.wo
  refine ⟨lv', wv', c, ⟨H', other_chg h.one h.two h.ne h.a1 h.a2 h.a3 h.a4 hch (fun k hk => hk), h.ne, h.a1.moved ml l2, h.a2.moved ml w2, h.a3.moved mw l2, h.a4.moved mw w2, nodup_snoc h.nd1 (fun k hk => (hu k hk).1), h.nd2, fun k hk => ⟨fun hm => ?_, fun hm => ?_⟩, snd_snoc h.e1 rfl, h.e2, fun r hr => ?_, h.len2, ?_⟩, hc, fun {B n v ys} hv => owns_chg hv hch (fun k hk hs => ?_)⟩
  · rcases mem_snoc hm with hm | hm
    · exact (h.dis k hk).1 hm
    · exact (hu k hm).2 hk
  · rcases mem_snoc hm with hm | hm
    · exact (h.dis k hk).2 hm
    · have := hc k hm
      have := blks_lt h.two.lrows k hk
      omega
  · rcases List.mem_append.1 hr with hr | hr
    · exact h.len1 r hr
    · rw [List.mem_singleton] at hr; subst hr; exact hx
  · refine h.bel.trans (hch.below h.bel.size (fun k hk hs => ?_))
    rcases hs with e | e | e
    · rw [e]; exact h.one.le
    · exact (h.one.lo.lt k e).1
    · exact (h.one.wo.lt k e).1
  · have := h.one.row_ne hv hk
    rcases hs with e | e | e
    · exact this.1 e
    · exact this.2.1 e
    · exact this.2.2 e

/-- .. in the second. -/
theorem Hold.add2 (h : Hold w W hb gb lv wv ls ws lv2 wv2 ls2 ws2) {u : Value} {xs : List ByteArray} (ha : Added W w.heap.size gb lv2 wv2 ls2 ws2 u xs W') (hu : ∀ k, u.ownBlock = some k → k ∉ blks ls ∧ k ∉ blks ws ∧ k ∉ blks ls2) (hx : xs.length ≤ 100) :
    ∃ lv' wv' c, Hold w W' hb gb lv wv ls ws lv' wv' (ls2 ++ [(u, xs)]) (ws2 ++ [(c, xs)]) ∧ (∀ {B n : Nat} {v : Value} {ys : List Value}, W.ownsRow B 9 1 v n ys → W'.ownsRow B 9 1 v n ys) := by
  obtain ⟨lv', wv', c, H', ml, mw, hc, hch⟩ := ha
  have l1 := own_ge h.one.lo
  have w1 := own_ge h.one.wo
  refine ⟨lv', wv', c, ⟨other_chg h.two h.one h.ne.symm h.a1.symm h.a3.symm h.a2.symm h.a4.symm hch (fun k hk => hk), H', h.ne, (h.a1.symm.moved ml l1).symm, (h.a2.symm.moved mw l1).symm, (h.a3.symm.moved ml w1).symm, (h.a4.symm.moved mw w1).symm, h.nd1, nodup_snoc h.nd2 (fun k hk => (hu k hk).2.2), fun k hk => ?_, h.e1, snd_snoc h.e2 rfl, h.len1, fun r hr => ?_, ?_⟩, fun {B n v ys} hv => owns_chg hv hch (fun k hk hs => ?_)⟩
  · rcases mem_snoc hk with hk | hk
    · exact h.dis k hk
    · exact ⟨(hu k hk).1, (hu k hk).2.1⟩
  · rcases List.mem_append.1 hr with hr | hr
    · exact h.len2 r hr
    · rw [List.mem_singleton] at hr; subst hr; exact hx
  · refine h.bel.trans (hch.below h.bel.size (fun k hk hs => ?_))
    rcases hs with e | e | e
    · rw [e]; exact h.two.le
    · exact (h.two.lo.lt k e).1
    · exact (h.two.wo.lt k e).1
  · have := h.two.row_ne hv hk
    rcases hs with e | e | e
    · exact this.1 e
    · exact this.2.1 e
    · exact this.2.2 e

/-- The second is written over. -/
theorem Hold.gave2 (h : Hold w W hb gb lv wv ls ws lv2 wv2 ls2 ws2) (hc : Chg W W' (fun k => k ∈ blks ls2)) : HeldAt W' w.heap.size hb lv wv ls ws ∧ Below w.heap.size w W' := by
  have row : ∀ k, k ∈ blks ls2 → ∃ cur, W.heap[k]? = some (.cells cur 9 (0, 0)) := fun k hk => by
    obtain ⟨r, hr, hk'⟩ := List.mem_filterMap.1 hk
    exact owns_kind (h.two.lrows r hr) hk'
  refine ⟨h.one.chg hc (fun hs => ?_) (fun k hk hs => ?_) (fun k hk hs => ?_) (fun k hk hs => (h.dis k hs).1 hk) (fun k hk hs => (h.dis k hs).2 hk), h.bel.trans (hc.below h.bel.size (fun k _ hs => blks_ge h.two.lrows k hs))⟩
  · obtain ⟨c', hc'⟩ := row _ hs; exact absurd (kind_ne hc' h.one.blk) (by decide)
  · obtain ⟨c', hc'⟩ := row _ hs; obtain ⟨c2, hc2⟩ := owns_kind h.one.lo hk; exact absurd (kind_ne hc' hc2) (by decide)
  · obtain ⟨c', hc'⟩ := row _ hs; obtain ⟨c2, hc2⟩ := owns_kind h.one.wo hk; exact absurd (kind_ne hc' hc2) (by decide)
theorem HeldAt.gave {B : Nat} (h : HeldAt W B hb lv wv ls ws) (hB : B ≤ W.heap.size) (hc : Chg W W' (fun k => k ∈ blks ls)) : Below B W W' :=
  hc.below hB (fun k _ hs => blks_ge h.lrows k hs)

/-- Parse, whatever it answers. -/
theorem parse_row (s : ByteArray) {code : Int} {xs : List ByteArray} (hp : parse s = (code, xs)) (w : World) (hg : Ground w) :
    Calls Tryd.prog 19 #[.string s] w fun e w' => ∃ a c, e = .returned (.tuple #[.slice a xs.length c, .int .i64 code]) ∧ Rok w' w.heap.size (.slice a xs.length c, xs) ∧ (Value.slice a xs.length c = .slice none 0 0 ∨ xs ≠ []) ∧ c ≤ 6 ∧ Below w.heap.size w w' := by
  cases xs with
  | nil =>
    refine (parse_none hp w hg).mono ?_
    rintro e w' ⟨rfl, hb⟩
    exact ⟨none, 0, rfl, World.ownsRow_nil _ _ _ _, .inl rfl, by omega, hb⟩
  | cons x ys =>
    have hl := (parse_len hp).1
    refine (parse_some hp (by simp) w hg).mono ?_
    rintro e w' ⟨b, rfl, h1, h2, hb⟩
    refine ⟨some ⟨b, 0, none⟩, (x :: ys).length, rfl, ⟨by simp, .inr ⟨b, (x :: ys).length, _, rfl, h1, h2, Nat.le_refl _, ?_, ?_, ?_⟩⟩, .inr (by simp), hl, hb⟩
    · first | (unfold maxLen; omega) | simp
    · first | simp | (unfold maxLen; omega)
    · simp
      exact List.take_of_length_le (by simp)
end Go.Proofs.YtblhenblibdjoabDoor
