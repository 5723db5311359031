/-
  Feed: the steps of its round, by memory alone.
-/
import Derived.Test.YtdjibjmhjofedacWChunk
import Derived.Laws.CopyOwn
namespace Go.Proofs.Ytdjibjmhjofedac
open Go.RowKit
set_option linter.unusedVariables false

/-- append of a list of cells to a row of its own. -/
theorem run_app_row {P : Program} {w : World} {t ty e : TypeId} {i : TypeInfo} {z : Value} {bytes : Nat} (ht : P.underlying t = some (.slice e)) (hi : P.info? e = some i) (hz : i.zero = some z) (hsize : i.size = 1) (hby : i.bytes = bytes) (hzs : z.cells.size = 1)
    {v : Value} {vals : List Value} (hd : w.ownsRow 0 e 1 v vals.length vals) {ad : Addr} {m c : Nat} {news : List Value} (hn : news.length = m) (hc : ∀ j u, news[j]? = some u → w.cell? (ad.add j) = some u) (h1 : ∀ u ∈ news, u.oneCell' = true) (hb1 : vals.length + m ≤ 1000000) (hbb : bytes ≤ 100) :
    ∃ v' w', (Builtin.append_ #[t, t] ty #[v, .slice (some ad) m c]).run P w = .ok v' w' ∧ w'.ownsRow 0 e 1 v' (vals ++ news).length (vals ++ news) ∧ w.grownBy w' v.ownBlock ∧ (∀ k, v'.ownBlock = some k → v.ownBlock = some k ∨ w.heap.size ≤ k) := by
  have hml : (1000000 : Nat) ≤ maxLen := by unfold maxLen; decide
  have hby2 : (vals.length + m) * bytes ≤ 140737488355328 := Nat.le_trans (Nat.mul_le_mul hb1 hbb) (by decide)
  have hl : (vals ++ news).length = vals.length + m := by rw [List.length_append, hn]
  have hnl : news.length = m * 1 := by rw [hn, Nat.mul_one]
  rw [hl]
  rcases hd.2 with ⟨rfl, h0⟩ | ⟨g, cap, cur, rfl, _, hg, hnn, hm, hs, htk⟩
  · obtain rfl : vals = [] := List.eq_nil_of_length_eq_zero h0
    obtain ⟨v', w', hrun, r1, r2, _⟩ := run_append_own (P := P) w w.heap.size t ty e i z 1 bytes ht hi hz hsize hby hzs (by decide) (.slice none 0 0) 0 [] (World.ownsRow_nil w _ e 1) ad m c news hnl hc h1 (by simp at hb1; omega) (by simpa using hby2) (Nat.le_refl _)
    exact ⟨v', w', hrun, owns_zero r1, r2, fun k hk => .inr (r1.lt k hk).1⟩
  · by_cases hroom : vals.length + m ≤ cap
    · obtain ⟨w', hrun, r1, r2⟩ := run_append_fits (P := P) w 0 t ty e i 1 ht hi hsize g vals.length cap vals hd ad m c news hnl hc h1 hroom
      exact ⟨_, w', hrun, r1, r2, fun k hk => .inl hk⟩
    · obtain ⟨v', w', hrun, r1, r2⟩ := run_append_arg_grows (P := P) w t ty e i z 1 bytes ht hi hz hsize hby hzs (by decide) ⟨g, 0, none⟩ vals.length cap vals (by rw [Nat.mul_one]) (fun j u hj => by
          have hjl : j < vals.length := (List.getElem?_eq_some_iff.1 hj).1
          rw [addr_add, cell_blk hg]
          rw [← htk, List.getElem?_take, if_pos (by omega)] at hj
          rw [← Array.getElem?_toList, Nat.zero_add]
          exact hj) ad m c news hnl hc (by omega) (by omega) hby2
      exact ⟨v', w', hrun, owns_zero r1, ⟨r2.os, r2.tape, r2.output, r2.size, fun k hk _ => r2.block k hk (by simp)⟩, fun k hk => .inr (r1.lt k hk).1⟩

theorem step_app_row {P : Program} {ops : Array Oper} {o : Oper} {a : Act} {w : World} {K : Act → World → Prop} {Q : Exit → Act → World → Prop} {E : Prop} (hgd : o.guard = none) (s x : Operand) (t : TypeId) (ho : o.op = .call { callee := .builtin .append, args := #[s, x], argTypes := #[t, t] })
    {e : TypeId} {i : TypeInfo} {z : Value} {bytes : Nat} (ht : P.underlying t = some (.slice e)) (hi : P.info? e = some i) (hz : i.zero = some z) (hsize : i.size = 1) (hby : i.bytes = bytes) (hzs : z.cells.size = 1)
    {v : Value} {vals : List Value} (hs : a.eval s = v) (hd : w.ownsRow 0 e 1 v vals.length vals) {ad : Addr} {m c : Nat} {news : List Value} (hx : a.eval x = .slice (some ad) m c) (hn : news.length = m) (hc : ∀ j u, news[j]? = some u → w.cell? (ad.add j) = some u) (h1 : ∀ u ∈ news, u.oneCell' = true) (hb1 : vals.length + m ≤ 1000000) (hbb : bytes ≤ 100)
    (hK : ∀ v' w', w'.ownsRow 0 e 1 v' (vals ++ news).length (vals ++ news) → w.grownBy w' v.ownBlock → (∀ k, v'.ownBlock = some k → v.ownBlock = some k ∨ w.heap.size ≤ k) → K (a.put o.dst v') w') :
    if Region.wanted o (yielded ops a.tmps) = true then Oper.wp P o a w K Q else E := by
  have hw : Region.wanted o (yielded ops a.tmps) = true := by simp [Region.wanted, hgd]
  rw [if_pos hw]
  obtain ⟨v', w', hrun, r1, r2, r3⟩ := run_app_row (P := P) (ty := o.type) ht hi hz hsize hby hzs hd hn hc h1 hb1 hbb (c := c)
  unfold Oper.wp
  simp [execOp, ho, resolve, invoke, builtin, hs, hx, hrun, Result.andThen]
  exact hK v' w' r1 r2 r3

/-- The bite is in the room. -/
theorem St.fed {w w1 : World} {sb sk : Nat} {rv fv rv1 : Value} {xs ys : List Int} {fs : List (Value × List Int)} (h : St w sb rv fv xs fs sk) (hy : Byt ys) (hr : w1.ownsRow 0 5 1 rv1 (xs ++ ys).length (bv (xs ++ ys))) (hg : w.grownBy w1 rv.ownBlock) (hrv : ∀ k, rv1.ownBlock = some k → rv.ownBlock = some k ∨ w.heap.size ≤ k) :
    St (w1.setCell ⟨sb, 0, none⟩ rv1) sb rv1 fv (xs ++ ys) fs sk ∧ Fr (fun b => b = sb ∨ rv.ownBlock = some b) w (w1.setCell ⟨sb, 0, none⟩ rv1) := by
  have hf1 := Fr.of_grown hg
  have hf2 := Fr.of_setCell w1 ⟨sb, 0, none⟩ rv1
  have hsb1 : w1.heap[sb]? = some (.cells #[rv, fv, .int .i64 sk] 33 (0, 0)) := (hf1.block sb h.lt (fun e => (h.ne_r sb e).1 rfl)).trans h.blk
  have hs1 : w.heap.size ≤ w1.heap.size := hg.size
  have hrne : ∀ k, rv1.ownBlock = some k → k ≠ sb := fun k hk e => by
    obtain ⟨_, _, cur, hc⟩ := owns_kind hr k hk
    subst e; rw [hsb1] at hc; cases hc
  refine ⟨⟨(set_blk hsb1 0 _).trans rfl, owns_fr hr hf2 (fun k hk e => hrne k hk e), (h.fnd.fr hf1 (fun k hk e => (h.ne_r k e).2 hk)).fr hf2 (fun k hk e => h.ne_f k hk e), fun p hp => ⟨owns_fr (owns_fr (h.each p hp).1 hf1 (fun k hk e => (h.ne_b p hp k hk).2.2 e)) hf2 (fun k hk e => (h.ne_b p hp k hk).1 e), (h.each p hp).2⟩, ?_, ?_⟩, (hf1.mono (fun j e => .inl (.inr e))).set _ _ (.inl rfl)⟩
  · have ha := h.apart
    unfold ApartV at ha ⊢
    rw [List.pairwise_cons] at ha ⊢
    refine ⟨fun a ha' k hk e => ?_, ha.2⟩
    rcases hrv k hk with e' | e'
    · exact ha.1 a ha' k e' e
    · obtain ⟨p, hp, rfl⟩ := List.mem_map.1 ha'
      have := h.lt_b p hp k e
      omega
  · intro z hz
    rcases List.mem_append.1 hz with h' | h'
    · exact h.byt z h'
    · exact hy z h'

/-- What is decided is out of the room. -/
theorem St.moved {w w1 : World} {sb sk g cap n th : Nat} {fv : Value} {xs : List Int} {fs : List (Value × List Int)} {cur : List Value} (h : St w sb (.slice (some ⟨g, 0, none⟩) n cap) fv xs fs sk) (hn : n = xs.length) (hth : th ≤ xs.length) (hc : cur.length = cap) (hcap : n ≤ cap) (hcm : cap ≤ maxLen)
    (hblk : w1.heap[g]? = some (.cells (splice cur 0 ((bv xs).drop th)).toArray 5 (0, 0))) (hf : Fr (fun b => b = g) w w1) :
    St (w1.setCell ⟨sb, 0, none⟩ (.slice (some ⟨g, 0, none⟩) (n - th) cap)) sb (.slice (some ⟨g, 0, none⟩) (n - th) cap) fv (xs.drop th) fs sk ∧ Fr (fun b => b = sb ∨ b = g) w (w1.setCell ⟨sb, 0, none⟩ (.slice (some ⟨g, 0, none⟩) (n - th) cap)) := by
  have hgs : g ≠ sb := (h.ne_r g rfl).1
  have hf2 := Fr.of_setCell w1 ⟨sb, 0, none⟩ (.slice (some ⟨g, 0, none⟩) (n - th) cap)
  have hsb1 : w1.heap[sb]? = some (.cells #[.slice (some ⟨g, 0, none⟩) n cap, fv, .int .i64 sk] 33 (0, 0)) := (hf.block sb h.lt (fun e => hgs e.symm)).trans h.blk
  have hlen : ((bv xs).drop th).length = n - th := by rw [List.length_drop, bv_len, hn]
  refine ⟨⟨(set_blk hsb1 0 _).trans rfl, ⟨?_, .inr ⟨g, cap, (splice cur 0 ((bv xs).drop th)).toArray, by rw [List.length_drop, hn], Nat.zero_le _, (Below.heap_setCell w1 ⟨sb, 0, none⟩ _ g hgs).trans hblk, ?_, hcm, ?_, ?_⟩⟩, (h.fnd.fr hf (fun k hk e => (h.ne_r g rfl).2 (by rw [← e]; exact hk))).fr hf2 (fun k hk e => h.ne_f k hk e), fun p hp => ⟨owns_fr (owns_fr (h.each p hp).1 hf (fun k hk e => (h.ne_b p hp k hk).2.2 (by rw [e]; rfl))) hf2 (fun k hk e => (h.ne_b p hp k hk).1 e), (h.each p hp).2⟩, ?_, ?_⟩, (hf.mono (fun j e => .inl (.inr e))).set _ _ (.inl rfl)⟩
  · rw [bv_len, Nat.mul_one]
  · rw [List.length_drop]; omega
  · rw [List.size_toArray, length_splice _ _ _ (by rw [hlen, hc]; omega), hc, Nat.mul_one]
  · rw [List.length_drop, Nat.mul_one, ← hn]
    show ((splice cur 0 ((bv xs).drop th))).take (n - th) = bv (xs.drop th)
    unfold splice
    rw [List.take_zero, List.nil_append, List.take_append_of_le_length (by rw [hlen]; exact Nat.le_refl _), List.take_of_length_le (by rw [hlen]; exact Nat.le_refl _)]
    unfold bv
    rw [List.map_drop]
  · have ha := h.apart
    unfold ApartV at ha ⊢
    rw [List.pairwise_cons] at ha ⊢
    exact ⟨fun a ha' k hk => ha.1 a ha' k hk, ha.2⟩
  · intro z hz
    exact h.byt z (List.mem_of_mem_drop hz)

/-- What Feed leaves. -/
structure Fed (w : World) (sb : Nat) (rv fv : Value) (xs : List Int) (fs : List (Value × List Int)) (sk : Nat) (ys : List Int) (w' : World) (rv' fv' : Value) (gs : List (Value × List Int)) : Prop where
  st : St w' sb rv' fv' ((xs ++ ys).drop (dec (xs ++ ys)).2.2) (fs ++ gs) (sk + (dec (xs ++ ys)).2.1)
  bodies : gs.map (·.2) = (dec (xs ++ ys)).1
  fr : Fr (fun b => b = sb ∨ rv.ownBlock = some b ∨ fv.ownBlock = some b) w w'
  rvf : ∀ b, rv'.ownBlock = some b → rv.ownBlock = some b ∨ w.heap.size ≤ b
  fvf : ∀ b, fv'.ownBlock = some b → fv.ownBlock = some b ∨ w.heap.size ≤ b
  gsf : ∀ p ∈ gs, ∀ b, p.1.ownBlock = some b → w.heap.size ≤ b

theorem DecE.end_ {w wr : World} {sb sk k j : Nat} {rv fv fv' : Value} {xs : List Int} {fs gs : List (Value × List Int)} (h : DecE w sb rv fv xs fs sk k wr fv' gs j) (hk : k = (Go.Proofs.Ytdjibjmhjofedac.dec xs).2.2) : gs.map (·.2) = (Go.Proofs.Ytdjibjmhjofedac.dec xs).1 ∧ j = (Go.Proofs.Ytdjibjmhjofedac.dec xs).2.1 := by
  have h21 := dec_left xs
  rw [← hk] at h21
  have := h.dec
  rw [dec_stop h21] at this
  rw [this]
  simp

/-- The three steps together. -/
theorem Fed.of {w w1 w2 w3 : World} {sb sk : Nat} {rv fv rv1 : Value} {xs ys : List Int} {fs : List (Value × List Int)} (h : St w sb rv fv xs fs sk)
    (h1 : St w1 sb rv1 fv (xs ++ ys) fs sk) (hf1 : Fr (fun b => b = sb ∨ rv.ownBlock = some b) w w1) (hr1 : ∀ b, rv1.ownBlock = some b → rv.ownBlock = some b ∨ w.heap.size ≤ b)
    {fv2 : Value} {gs : List (Value × List Int)} {j : Nat} (h2 : DecE w1 sb rv1 fv (xs ++ ys) fs sk (dec (xs ++ ys)).2.2 w2 fv2 gs j)
    {rv3 : Value} (h3 : St w3 sb rv3 fv2 ((xs ++ ys).drop (dec (xs ++ ys)).2.2) (fs ++ gs) (sk + j)) (hf3 : Fr (fun b => b = sb ∨ rv1.ownBlock = some b) w2 w3) (hr3 : rv3.ownBlock = rv1.ownBlock) :
    Fed w sb rv fv xs fs sk ys w3 rv3 fv2 gs := by
  obtain ⟨hb, hj⟩ := h2.end_ rfl
  have hs1 := hf1.size
  refine ⟨by rw [← hj]; exact h3, hb, ?_, fun b hb => hr1 b (by rw [← hr3]; exact hb), fun b hb => ?_, fun p hp b hb => ?_⟩
  · refine ((hf1.mono (T := fun b => b = sb ∨ rv.ownBlock = some b ∨ fv.ownBlock = some b) (fun b e => .inl ?_)).trans h2.fr (fun b e => .inl ?_)).trans hf3 (fun b e => ?_)
    · rcases e with e | e
      · exact .inl e
      · exact .inr (.inl e)
    · rcases e with e | e
      · exact .inl e
      · exact .inr (.inr e)
    · rcases e with e | e
      · exact .inl (.inl e)
      · rcases hr1 b e with e | e
        · exact .inl (.inr (.inl e))
        · exact .inr e
  · rcases h2.fv b hb with e | e
    · exact .inl e
    · exact .inr (by omega)
  · have := h2.gs p hp b hb
    omega
end Go.Proofs.Ytdjibjmhjofedac
