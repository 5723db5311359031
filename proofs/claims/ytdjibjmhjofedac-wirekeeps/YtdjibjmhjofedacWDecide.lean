/-
  decide.
-/
import Derived.Test.YtdjibjmhjofedacWTake
namespace Go.Proofs.Ytdjibjmhjofedac
open Go.RowKit
set_option linter.unusedVariables false
set_option linter.unusedSimpArgs false

theorem Deq.slice {w : World} {e : TypeId} {v : Value} {vals : List Value} (h : Deq w e v vals) : ∃ a n c, v = .slice a n c := by
  rcases h with ⟨rfl, _⟩ | ⟨g, off, cap, cur, rfl, _⟩
  · exact ⟨_, _, _, rfl⟩
  · exact ⟨_, _, _, rfl⟩

theorem info_body : (Try.prog.info? 26).map (fun i => (i.zero, i.size, i.bytes)) = some (some (.slice none 0 0), 1, 24) := by kernel_rfl

theorem St.c0 {w : World} {sb sk : Nat} {rv fv : Value} {xs : List Int} {fs : List (Value × List Int)} (h : St w sb rv fv xs fs sk) : w.cell? ⟨sb, 0, none⟩ = some rv := (cell_blk h.blk 0).trans rfl
theorem St.c1 {w : World} {sb sk : Nat} {rv fv : Value} {xs : List Int} {fs : List (Value × List Int)} (h : St w sb rv fv xs fs sk) : w.cell? ⟨sb, 1, none⟩ = some fv := (cell_blk h.blk 1).trans rfl
theorem St.c2 {w : World} {sb sk : Nat} {rv fv : Value} {xs : List Int} {fs : List (Value × List Int)} (h : St w sb rv fv xs fs sk) : w.cell? ⟨sb, 2, none⟩ = some (.int .i64 sk) := (cell_blk h.blk 2).trans rfl
theorem St.fz {w : World} {sb sk : Nat} {rv fv : Value} {xs : List Int} {fs : List (Value × List Int)} (h : St w sb rv fv xs fs sk) (o : Nat) : w.frozen? ⟨sb, o, none⟩ = false := frozen_blk h.blk o
theorem St.lt {w : World} {sb sk : Nat} {rv fv : Value} {xs : List Int} {fs : List (Value × List Int)} (h : St w sb rv fv xs fs sk) : sb < w.heap.size := lt_of_blk h.blk
theorem St.fv_slice {w : World} {sb sk : Nat} {rv fv : Value} {xs : List Int} {fs : List (Value × List Int)} (h : St w sb rv fv xs fs sk) : ∃ a n c, fv = .slice a n c := by
  rcases h.fnd with ⟨rfl, h0⟩ | ⟨g, off, cap, cur, rfl, _⟩
  · have : fs = [] := List.map_eq_nil_iff.1 h0
    subst this
    exact ⟨none, 0, 0, rfl⟩
  · exact ⟨_, _, cap, rfl⟩

theorem owns_zero {w : World} {base n : Nat} {e : TypeId} {v : Value} {vals : List Value} (h : w.ownsRow base e 1 v n vals) : w.ownsRow 0 e 1 v n vals :=
  ⟨h.1, h.2.imp id fun ⟨g, cap, cur, h1, _, h3⟩ => ⟨g, cap, cur, h1, Nat.zero_le _, h3⟩⟩

/-- Nothing of the stream's own is in S. -/
theorem St.fr {S : Nat → Prop} {w w' : World} {sb sk : Nat} {rv fv : Value} {xs : List Int} {fs : List (Value × List Int)} (h : St w sb rv fv xs fs sk) (hf : Fr S w w') (hs : ¬ S sb) (hr : ∀ k, rv.ownBlock = some k → ¬ S k) (hfv : ∀ k, fv.ownBlock = some k → ¬ S k) (hb : ∀ p ∈ fs, ∀ k, p.1.ownBlock = some k → ¬ S k) : St w' sb rv fv xs fs sk :=
  ⟨(hf.block sb h.lt hs).trans h.blk, owns_fr h.room hf hr, h.fnd.fr hf hfv, fun p hp => ⟨owns_fr (h.each p hp).1 hf (hb p hp), (h.each p hp).2⟩, h.apart, h.byt⟩
theorem St.below {w w' : World} {sb sk : Nat} {rv fv : Value} {xs : List Int} {fs : List (Value × List Int)} (h : St w sb rv fv xs fs sk) (hb : Below w.heap.size w w') : St w' sb rv fv xs fs sk :=
  h.fr (Fr.of_below hb (fun _ => False)) (fun h => h) (fun _ _ h => h) (fun _ _ h => h) (fun _ _ _ _ h => h)
theorem St.lt_b {w : World} {sb sk : Nat} {rv fv : Value} {xs : List Int} {fs : List (Value × List Int)} (h : St w sb rv fv xs fs sk) : ∀ p ∈ fs, ∀ k, p.1.ownBlock = some k → k < w.heap.size := fun p hp k hk => (owns_kind (h.each p hp).1 k hk).1

/-- Skipped one more. -/
theorem St.skip {w : World} {sb sk : Nat} {rv fv : Value} {xs : List Int} {fs : List (Value × List Int)} (h : St w sb rv fv xs fs sk) (sk' : Nat) : St (w.setCell ⟨sb, 2, none⟩ (.int .i64 sk')) sb rv fv xs fs sk' := by
  have hf := Fr.of_setCell w ⟨sb, 2, none⟩ (.int .i64 sk')
  refine ⟨(set_blk h.blk 2 _).trans rfl, owns_fr h.room hf (fun k hk e => (h.ne_r k hk).1 e), h.fnd.fr hf (fun k hk e => h.ne_f k hk e), fun p hp => ⟨owns_fr (h.each p hp).1 hf (fun k hk e => (h.ne_b p hp k hk).1 e), (h.each p hp).2⟩, h.apart, h.byt⟩

/-- A body more. -/
theorem St.found {w w1 w2 : World} {sb sk : Nat} {rv fv fv' v : Value} {xs ys : List Int} {fs : List (Value × List Int)} (h : St w sb rv fv xs fs sk) (hb : Below w.heap.size w w1) (hv : w1.ownsRow w.heap.size 5 1 v ys.length (bv ys)) (hy : Byt ys)
    (hd : Deq w2 26 fv' ((fs.map (·.1)) ++ [v])) (hg : w1.grownBy w2 fv.ownBlock) (hfv : ∀ k, fv'.ownBlock = some k → fv.ownBlock = some k ∨ w1.heap.size ≤ k) :
    St (w2.setCell ⟨sb, 1, none⟩ fv') sb rv fv' xs (fs ++ [(v, ys)]) sk := by
  have h1 := h.below hb
  have hf2 := Fr.of_grown hg
  have hvk := owns_kind hv
  have hvne : ∀ k, v.ownBlock = some k → fv.ownBlock ≠ some k := fun k hk e => by
    have := (h.fnd.lt k e).1
    have := (hvk k hk).2.1
    omega
  have h2 : St w2 sb rv fv xs [] sk ∨ True := .inr trivial
  have hf := Fr.of_setCell w2 ⟨sb, 1, none⟩ fv'
  have hsb2 : w2.heap[sb]? = some (.cells #[rv, fv, .int .i64 sk] 33 (0, 0)) := (hf2.block sb h1.lt (fun e => h.ne_f sb e rfl)).trans h1.blk
  refine ⟨(set_blk hsb2 1 _).trans rfl, owns_fr (owns_fr h1.room hf2 (fun k hk e => (h.ne_r k hk).2 e)) hf (fun k hk e => (h.ne_r k hk).1 e), ?_, ?_, ?_, h.byt⟩
  · rw [List.map_append]
    refine hd.fr hf (fun k hk e => ?_)
    dsimp only at e
    subst e
    rcases hfv k hk with e | e
    · exact h.ne_f k e rfl
    · have := h1.lt; omega
  · intro p hp
    rw [List.mem_append] at hp
    rcases hp with hp | hp
    · exact ⟨owns_fr (owns_fr (h1.each p hp).1 hf2 (fun k hk e => (h.ne_b p hp k hk).2.1 e)) hf (fun k hk e => (h.ne_b p hp k hk).1 e), (h.each p hp).2⟩
    · simp only [List.mem_singleton] at hp
      subst hp
      refine ⟨owns_zero (owns_fr (owns_fr hv hf2 (fun k hk e => hvne k hk e)) hf (fun k hk e => ?_)), hy⟩
      have := (hvk k hk).2.1
      have := h.lt
      dsimp only at e
      omega
  · have ha := h.apart
    unfold ApartV at ha ⊢
    rw [List.map_append, ← List.cons_append, List.pairwise_append]
    refine ⟨ha, List.pairwise_singleton _ _, fun a ha' b hb' k hk e => ?_⟩
    simp only [List.map_cons, List.map_nil, List.mem_singleton] at hb'
    subst hb'
    have h3 := (hvk k e).2.1
    rcases List.mem_cons.1 ha' with rfl | ha'
    · have := (owns_kind h.room k hk).1; omega
    · obtain ⟨p, hp, rfl⟩ := List.mem_map.1 ha'
      have := h.lt_b p hp k hk
      omega

theorem dec_next_skip {xs : List Int} {k : Nat} (h : fcode (xs.drop k) = 22) : dec (xs.drop k) = ((dec (xs.drop (k + 1))).1, (dec (xs.drop (k + 1))).2.1 + 1, 1 + (dec (xs.drop (k + 1))).2.2) := by
  rw [dec_skip h, List.drop_drop]
theorem dec_next_body {xs : List Int} {k n : Nat} (h : fcode (xs.drop k) = 0) (hn : n = w4 (xs.drop k) 2) : dec (xs.drop k) = ((((xs.drop k).drop 10).take n) :: (dec (xs.drop (k + (14 + n)))).1, (dec (xs.drop (k + (14 + n)))).2.1, 14 + n + (dec (xs.drop (k + (14 + n)))).2.2) := by
  subst hn
  have e : (xs.drop k).drop (14 + w4 (xs.drop k) 2) = xs.drop (k + (14 + w4 (xs.drop k) 2)) := List.drop_drop ..
  rw [dec_body h, e]

/-- Between two rounds. -/
structure DecE (w : World) (sb : Nat) (rv fv : Value) (xs : List Int) (fs : List (Value × List Int)) (sk k : Nat) (wr : World) (fv' : Value) (gs : List (Value × List Int)) (j : Nat) : Prop where
  st : St wr sb rv fv' xs (fs ++ gs) (sk + j)
  dec : dec xs = (gs.map (·.2) ++ (dec (xs.drop k)).1, j + (dec (xs.drop k)).2.1, k + (dec (xs.drop k)).2.2)
  le : k ≤ xs.length
  jk : j ≤ k
  gk : gs.length ≤ k
  fr : Fr (fun b => b = sb ∨ fv.ownBlock = some b) w wr
  fv : ∀ b, fv'.ownBlock = some b → fv.ownBlock = some b ∨ w.heap.size ≤ b
  gs : ∀ p ∈ gs, ∀ b, p.1.ownBlock = some b → w.heap.size ≤ b
def DecI (w : World) (sb : Nat) (rv fv : Value) (xs : List Int) (fs : List (Value × List Int)) (sk k : Nat) (wr : World) : Prop :=
  ∃ fv' gs j, DecE w sb rv fv xs fs sk k wr fv' gs j

theorem DecE.start {w : World} {sb sk : Nat} {rv fv : Value} {xs : List Int} {fs : List (Value × List Int)} (h : St w sb rv fv xs fs sk) : DecE w sb rv fv xs fs sk 0 w fv [] 0 :=
  ⟨by simpa using h, by simp, Nat.zero_le _, Nat.le_refl _, Nat.le_refl _, Fr.refl _ _, fun b hb => .inl hb, fun p hp => by cases hp⟩
theorem DecE.below {w wr w1 : World} {sb sk k j : Nat} {rv fv fv' : Value} {xs : List Int} {fs gs : List (Value × List Int)} (h : DecE w sb rv fv xs fs sk k wr fv' gs j) (hb : Below wr.heap.size wr w1) : DecE w sb rv fv xs fs sk k w1 fv' gs j :=
  ⟨h.st.below hb, h.dec, h.le, h.jk, h.gk, h.fr.trans (Fr.of_below hb (fun _ => False)) (fun _ h => h.elim), h.fv, h.gs⟩
theorem DecE.stop {w wr : World} {sb sk k j : Nat} {rv fv fv' : Value} {xs : List Int} {fs gs : List (Value × List Int)} (h : DecE w sb rv fv xs fs sk k wr fv' gs j) (h21 : fcode (xs.drop k) = 21) : (Go.Proofs.Ytdjibjmhjofedac.dec xs).2.2 = k := by
  rw [h.dec, dec_stop h21]
  rfl
theorem DecE.skip {w wr : World} {sb sk k j : Nat} {rv fv fv' : Value} {xs : List Int} {fs gs : List (Value × List Int)} (h : DecE w sb rv fv xs fs sk k wr fv' gs j) (h22 : fcode (xs.drop k) = 22) :
    DecE w sb rv fv xs fs sk (k + 1) (wr.setCell ⟨sb, 2, none⟩ (.int .i64 (sk + j + 1 : Nat))) fv' gs (j + 1) := by
  have hk : k < xs.length := by
    rcases Nat.lt_or_ge k xs.length with g | g
    · exact g
    · rw [List.drop_eq_nil_of_le g] at h22; cases h22
  refine ⟨?_, ?_, hk, by have := h.jk; omega, by have := h.gk; omega, h.fr.trans (Fr.of_setCell wr ⟨sb, 2, none⟩ _) (fun b e => .inl (.inl e)), h.fv, h.gs⟩
  · have := h.st.skip (sk + j + 1)
    exact this
  · rw [h.dec, dec_next_skip h22]
    refine Prod.ext rfl (Prod.ext ?_ ?_)
    · show _ + (_ + 1) = _ + 1 + _; omega
    · show _ + (1 + _) = _ + 1 + _; omega
theorem DecE.found {w wr w1 w2 : World} {sb sk k j n : Nat} {rv fv fv1 fv2 v : Value} {xs ys : List Int} {fs gs : List (Value × List Int)} (h : DecE w sb rv fv xs fs sk k wr fv1 gs j) (h0 : fcode (xs.drop k) = 0) (hn : n = w4 (xs.drop k) 2) (hys : ys = ((xs.drop k).drop 10).take n)
    (hb : Below wr.heap.size wr w1) (hv : w1.ownsRow wr.heap.size 5 1 v ys.length (bv ys)) (hd : Deq w2 26 fv2 (((fs ++ gs).map (·.1)) ++ [v])) (hg : w1.grownBy w2 fv1.ownBlock) (hfv : ∀ k, fv2.ownBlock = some k → fv1.ownBlock = some k ∨ w1.heap.size ≤ k) :
    DecE w sb rv fv xs fs sk (k + (14 + n)) (w2.setCell ⟨sb, 1, none⟩ fv2) fv2 (gs ++ [(v, ys)]) j := by
  have hok := fcode_ok h0
  have hl : 14 + n ≤ xs.length - k := by rw [hn]; have := hok.2.1; rw [List.length_drop] at this; exact this
  have hyb : Byt ys := by
    rw [hys]
    intro z hz
    exact h.st.byt z (List.mem_of_mem_drop (List.mem_of_mem_drop (List.mem_of_mem_take hz)))
  have hs1 : wr.heap.size ≤ w1.heap.size := hb.size
  have hws : w.heap.size ≤ wr.heap.size := h.fr.size
  refine ⟨?_, ?_, by omega, by have := h.jk; omega, by rw [List.length_append]; have := h.gk; simp; omega, ?_, ?_, ?_⟩
  · have := h.st.found hb hv hyb hd hg hfv
    rwa [List.append_assoc] at this
  · rw [h.dec, dec_next_body h0 hn, hys]
    refine Prod.ext ?_ (Prod.ext rfl ?_)
    · simp
    · show k + (_ + _) = k + _ + _; omega
  · refine ((h.fr.trans (Fr.of_below hb (fun _ => False)) (fun _ h => h.elim)).trans (Fr.of_grown hg) (fun b e => ?_)).trans (Fr.of_setCell w2 ⟨sb, 1, none⟩ fv2) (fun b e => .inl (.inl e))
    rcases h.fv b e with e | e
    · exact .inl (.inr e)
    · exact .inr e
  · intro b hb'
    rcases hfv b hb' with e | e
    · exact h.fv b e
    · exact .inr (by omega)
  · intro p hp b hb'
    rw [List.mem_append] at hp
    rcases hp with hp | hp
    · exact h.gs p hp b hb'
    · simp only [List.mem_singleton] at hp
      subst hp
      have := (owns_kind hv b hb').2.1
      omega

theorem first_is (b o c n : Nat) (xs : List Int) (w : World) (f : Int) (hf : fcode xs = f) (hf0 : f ≠ 0) (hn : n = xs.length) (hc : xs.length ≤ c) (hcm : c ≤ maxLen) (hlt : b < w.heap.size) (hx : ∀ (j : Nat) (z : Int), xs[j]? = some z → w.cell? ⟨b, o + j, none⟩ = some (.int .u8 z)) (hb : Byt xs) (hm : xs.length ≤ 1000000) :
    Calls Try.prog 33 #[.slice (some ⟨b, o, none⟩) n c] w fun e w' => e = .returned (.tuple #[.slice none 0 0, .int .i64 f]) ∧ Below w.heap.size w w' := by
  subst hn
  refine (first_all b o c xs w hc hcm hlt hx hb hm).mono ?_
  rintro e w' ⟨rfl, hb1⟩
  rw [hf, if_neg hf0]
  exact ⟨rfl, hb1⟩
theorem first_zero (b o c n m : Nat) (xs : List Int) (w : World) (hf : fcode xs = 0) (hn : n = xs.length) (hw : m = w4 xs 2) (hc : xs.length ≤ c) (hcm : c ≤ maxLen) (hlt : b < w.heap.size) (hx : ∀ (j : Nat) (z : Int), xs[j]? = some z → w.cell? ⟨b, o + j, none⟩ = some (.int .u8 z)) (hb : Byt xs) (hm : xs.length ≤ 1000000) :
    Calls Try.prog 33 #[.slice (some ⟨b, o, none⟩) n c] w fun e w' => e = .returned (.tuple #[.slice (some ⟨b, o + 10, none⟩) m (c - 10), .int .i64 0]) ∧ Below w.heap.size w w' := by
  subst hn
  subst hw
  refine (first_all b o c xs w hc hcm hlt hx hb hm).mono ?_
  rintro e w' ⟨rfl, hb1⟩
  rw [hf, if_pos rfl]
  exact ⟨rfl, hb1⟩

set_option maxHeartbeats 16000000 in
set_option maxRecDepth 100000 in
theorem decide_any (sb : Nat) (rv fv : Value) (xs : List Int) (fs : List (Value × List Int)) (sk : Nat) (w : World) (hst : St w sb rv fv xs fs sk) (hne : xs ≠ []) (hm : xs.length ≤ 900000) (hfx : fs.length + xs.length ≤ 900000) (hsk : sk ≤ 1000000000) :
    Calls Try.prog 30 #[.pointer (some ⟨sb, 0, none⟩)] w fun e w' => e = .returned (.int .i64 ((dec xs).2.2 : Nat)) ∧ DecI w sb rv fv xs fs sk (dec xs).2.2 w' := by
  obtain ⟨rb, cap, hrv, hn, hcm, hrlt⟩ : ∃ rb cap, rv = .slice (some ⟨rb, 0, none⟩) xs.length cap ∧ xs.length ≤ cap ∧ cap ≤ maxLen ∧ rb < w.heap.size := by
    rcases hst.room.2 with ⟨_, h0⟩ | ⟨g, cap, cur, rfl, _, hg, hn, hc, _⟩
    · exact absurd (List.eq_nil_of_length_eq_zero h0) hne
    · exact ⟨g, cap, rfl, hn, hc, lt_of_blk hg⟩
  obtain ⟨i0, hi, hz0, hz1, hz2⟩ := info_parts info_body
  have HI0 : Hid (DecI w sb rv fv xs fs sk 0 w) := ⟨fv, [], 0, DecE.start hst⟩
  have hb := hst.byt
  have hcm' := hcm
  unfold maxLen at hcm
  clear hst
  go_enter Try.func30, Try.ntmps30
  go_wp2
  go_loopw [3] (fun i wr => ∃ k : Nat, i = .int .i64 k ∧ k ≤ xs.length ∧ Hid (DecI w sb rv fv xs fs sk k wr)) (fun i _ => xs.length - (intOf i).toNat)
  case atStart => exact ⟨0, rfl, Nat.zero_le _, HI0⟩
  case round =>
    obtain ⟨k, rfl, hkn, HI⟩ := hrel
    obtain ⟨fv1, gs, j, hE⟩ := HI.out
    have HE : Hid (DecE w sb rv fv xs fs sk k wr fv1 gs j) := hE
    have hst1 := hE.st
    have hjk := hE.jk
    have hgk := hE.gk
    have hc0 := hst1.c0
    have hf1 := hst1.fz 1
    have hf2 := hst1.fz 2
    rw [hrv] at hc0
    have hrb1 : rb < wr.heap.size := Nat.lt_of_lt_of_le hrlt hE.fr.size
    have hcells : ∀ (i : Nat) (z : Int), xs[i]? = some z → wr.cell? ⟨rb, i, none⟩ = some (.int .u8 z) := by
      intro i z hz
      have h := hst1.room
      rw [hrv] at h
      have hi2 : i < xs.length := (List.getElem?_eq_some_iff.1 hz).1
      rw [h.cellAt i (by omega)]
      simp [bv, hz]
    have hkI : (k : Int) ≤ (xs.length : Int) := by omega
    have hnI : (xs.length : Int) ≤ (cap : Int) := by omega
    by_cases hkc : k = cap
    · -- nothing is left, and no room
      have hx : xs.drop k = [] := List.drop_eq_nil_of_le (by omega)
      have h21 : fcode (xs.drop k) = 21 := by rw [hx]; rfl
      have HF : Hid _ := first_is rb 0 0 0 [] wr 21 rfl (by decide) rfl (Nat.le_refl _) (Nat.zero_le _) hrb1 (fun j z hz => by simp at hz) (by intro z hz; cases hz) (Nat.zero_le _)
      have HX : Hid ((dec xs).2.2 = k) := hE.stop h21
      have hxl : k = xs.length := by omega
      clear hE hst1 hcells HI hb h21
      subst hkc
      go_wp2_with (first | (go_at_call 33; refine Calls.mono HF.out ?_; rintro e w1 ⟨rfl, hb1⟩; have HE1 : Hid _ := HE.out.below hb1; clear hb1) | fail)
      go_ret
      exact ⟨by rw [HX.out]; exact congrArg (fun n : Nat => Ending.returned (Value.int .i64 n)) hxl.symm, by rw [HX.out]; exact ⟨_, _, _, HE1.out⟩⟩
    · have hkc' : (k : Int) < (cap : Int) := by omega
      have hbd : Byt (xs.drop k) := fun z hz => hb z (List.mem_of_mem_drop hz)
      have hcd : ∀ (i : Nat) (z : Int), (xs.drop k)[i]? = some z → wr.cell? ⟨rb, k + i, none⟩ = some (.int .u8 z) := fun i z hz => by
        rw [List.getElem?_drop] at hz
        exact hcells _ z hz
      have hld : xs.length - k = (xs.drop k).length := (List.length_drop ..).symm
      rcases fcode_cases (xs.drop k) with h0 | h1 | h2
      · obtain ⟨m, hm4⟩ : ∃ m, m = w4 (xs.drop k) 2 := ⟨_, rfl⟩
        have hok := fcode_ok h0
        rw [← hm4] at hok
        have hml : 14 + m ≤ xs.length - k := by rw [hld]; exact hok.2.1
        have HF : Hid _ := first_zero rb k (cap - k) (xs.length - k) m (xs.drop k) wr h0 hld hm4 (by omega) (by omega) hrb1 hcd hbd (by omega)
        have H0 : Hid (fcode (xs.drop k) = 0) := h0
        have HM : Hid (m = w4 (xs.drop k) 2) := hm4
        obtain ⟨ys, hys⟩ : ∃ ys, ys = ((xs.drop k).drop 10).take m := ⟨_, rfl⟩
        have HYS : Hid (ys = ((xs.drop k).drop 10).take m) := hys
        have hyl : m = ys.length := by rw [hys, List.length_take, List.length_drop, ← hld]; omega
        have HBY : Hid (Bys wr (some ⟨rb, k + 10, none⟩) ys) := .inr ⟨rb, k + 10, rfl, hrb1, fun i z hz => by
          rw [hys, List.getElem?_take] at hz
          split at hz
          · rw [List.getElem?_drop] at hz
            rw [Nat.add_assoc]
            exact hcd _ z hz
          · cases hz⟩
        clear hE hst1 hcells HI hb h0 hbd hcd hld hok hm4 hys
        obtain ⟨fa, fl, fc, rfl⟩ := HE.out.st.fv_slice
        subst hyl
        have hmm : ys.length ≤ 1000000 := by omega
        go_wp2_with (first | (go_at_call 33; refine Calls.mono HF.out ?_; rintro e w1 ⟨rfl, hb1⟩; have HE1 : Hid _ := HE.out.below hb1; have HBY1 : Hid _ := HBY.out.below hb1; have hd1 := HE1.out.st.c1; have hg1 := HE1.out.st.fz 1; clear hb1) | fail)
        refine wp_region_held_drew (S := (fun _ => True)) (by kernel_rfl) trivial (fun _ => ?_)
        refine wpAnyH_take (i := 0) (v := ?vz_0) rfl (by kernel_rfl) (by kernel_rfl) (by kernel_rfl) (fun _ _ _ h => h) ?hyz_0 trivial ?hz_0
        case hyz_0 => refine Or.inl ⟨by rfl, ?_⟩; intro w _; go_simp <;> with_reducible rfl
        try simp only [Act.put, List.setIfInBounds_toArray, List.set_cons_zero, List.set_cons_succ]
        refine wpAnyH_take (i := 1) (v := ?vz_1) rfl (by kernel_rfl) (by kernel_rfl) (by kernel_rfl) (fun _ _ _ h => h) ?hyz_1 trivial ?hz_1
        case hyz_1 => refine Or.inl ⟨by rfl, ?_⟩; intro w _; go_simp <;> with_reducible rfl
        try simp only [Act.put, List.setIfInBounds_toArray, List.set_cons_zero, List.set_cons_succ]
        refine wpAnyH_take (i := 2) (v := ?vz_2) rfl (by kernel_rfl) (by kernel_rfl) (by kernel_rfl) (fun _ _ _ h => h) ?hyz_2 trivial ?hz_2
        case hyz_2 => refine Or.inl ⟨by rfl, ?_⟩; intro w _; go_simp <;> with_reducible rfl
        try simp only [Act.put, List.setIfInBounds_toArray, List.set_cons_zero, List.set_cons_succ]
        refine wpAnyH_take (i := 3) (v := ?vz_3) rfl (by kernel_rfl) (by kernel_rfl) (by kernel_rfl) (fun _ _ _ h => h) ?hyz_3 trivial ?hz_3
        case hyz_3 => refine Or.inl ⟨by rfl, ?_⟩; intro w _; go_simp <;> with_reducible rfl
        try simp only [Act.put, List.setIfInBounds_toArray, List.set_cons_zero, List.set_cons_succ]
        refine wpAnyH_take (i := 5) (v := ?vz_5) rfl (by kernel_rfl) (by kernel_rfl) (by kernel_rfl) (fun _ _ _ h => h) ?hyz_5 trivial ?hz_5
        case hyz_5 => refine Or.inl ⟨by rfl, ?_⟩; intro w _; go_simp <;> with_reducible rfl
        try simp only [Act.put, List.setIfInBounds_toArray, List.set_cons_zero, List.set_cons_succ]
        refine wpAnyH_ready (rs := [4, 6]) (by kernel_rfl) (by simp) ?_
        refine AllReadyH.cons rfl (fun K hK => ?_) (AllReadyH.cons rfl (fun K hK => ?_) AllReadyH.nil)
        · go_simp
          refine hK.out _ _ trivial (fun _ => ?_)
          clear hK K
          try simp only [Act.put, List.setIfInBounds_toArray, List.set_cons_zero, List.set_cons_succ]
          refine wpAnyH_ready (rs := [6]) (by kernel_rfl) (by simp) ?_
          refine AllReadyH.cons rfl (fun K hK => ?_) AllReadyH.nil
          go_simp
          refine (clone_any ⟨rb, k + 10, none⟩ _ ys.length ys _ rfl (Bys.drew HBY1.out) (by omega)).mono ?_
          rintro e w2 ⟨a2, c2, rfl, hrow2, hb2⟩
          have HROW : Hid _ := hrow2
          have HB2 : Hid (Below w1.heap.size w1 w2) := below_of_drew hb2
          have HE2 : Hid _ := HE1.out.below HB2.out
          have hd2 := HE2.out.st.c1
          have hg2 := HE2.out.st.fz 1
          clear hrow2 hb2
          go_wp2_with fail
          refine hK.out _ _ trivial (fun _ => ?_)
          clear hK K
          try simp only [Act.put, List.setIfInBounds_toArray, List.set_cons_zero, List.set_cons_succ]
          try simp only [Act.put, List.setIfInBounds_toArray, List.set_cons_zero, List.set_cons_succ]
          refine wpAnyH_ready (rs := [7]) (by kernel_rfl) (by simp) ?_
          refine AllReadyH.cons rfl (fun K hK => ?_) AllReadyH.nil
          go_simp
          refine hK.out _ _ trivial (fun _ => ?_)
          clear hK K
          try simp only [Act.put, List.setIfInBounds_toArray, List.set_cons_zero, List.set_cons_succ]
          have hd3 : (w2.alloc (.cells #[.slice a2 ys.length c2] 26 (0, 0))).cell? ⟨sb, 1, none⟩ = some (.slice fa fl fc) := (World.cell?_alloc_lt _ _ _ HE2.out.st.lt).trans hd2
          try simp only [Act.put, List.setIfInBounds_toArray, List.set_cons_zero, List.set_cons_succ]
          refine wpAnyH_ready (rs := [8]) (by kernel_rfl) (by simp) ?_
          refine AllReadyH.cons rfl (fun K hK => ?_) AllReadyH.nil
          refine step_app_deq rfl (.tmp 32) (.tmp 35) 22 rfl Try.underlying22 hi hz0 hz1 hz2 rfl (vals := (fs ++ gs).map (·.1)) (v := .slice fa fl fc) rfl ?deqa (ad := ⟨w2.heap.size, 0, none⟩) (c := 1) (y := .slice a2 ys.length c2) rfl (by rw [cell_blk (World.alloc_heap_new w2 _) 0]; rfl) rfl (by rw [List.length_map, List.length_append]; omega) (by decide) rfl ?_
          case deqa => exact HE2.out.st.fnd.fr (Fr.of_below ((Below.refl _ w2).alloc (Nat.le_refl _) _) (fun _ => False)) (fun _ _ h => h)
          intro fv2 w3 hdq hgr hfv2
          have HDQ : Hid _ := hdq
          have HGR : Hid _ := hgr
          have HFV2 : Hid _ := hfv2
          obtain ⟨fa2, fl2, fc2, hfv2e⟩ := hdq.slice
          clear hdq hgr hfv2
          have hsb3 : sb < (w2.alloc (.cells #[.slice a2 ys.length c2] 26 (0, 0))).heap.size := by rw [World.size_alloc]; have := HE2.out.st.lt; omega
          have HBLK : Hid (w3.heap[sb]? = w2.heap[sb]?) := (HGR.out.block sb hsb3 (fun e => HE2.out.st.ne_f sb e.symm rfl)).trans (Below.heap_alloc _ _ _ HE2.out.st.lt)
          have hd4 : w3.cell? ⟨sb, 1, none⟩ = some (.slice fa fl fc) := (World.cell?_of_block HBLK.out).trans hd2
          have hg4 : w3.frozen? ⟨sb, 1, none⟩ = false := (World.frozen?_of_block HBLK.out).trans hg2
          subst hfv2e
          refine hK.out _ _ trivial (fun _ => ?_)
          clear hK K
          try simp only [Act.put, List.setIfInBounds_toArray, List.set_cons_zero, List.set_cons_succ]
          refine wpAnyH_take (i := 9) (v := ?va_9) rfl (by kernel_rfl) (by kernel_rfl) (by kernel_rfl) (fun _ _ _ h => h) ?hya_9 trivial ?ha_9
          case hya_9 => refine Or.inl ⟨by rfl, ?_⟩; intro w _; go_simp <;> with_reducible rfl
          try simp only [Act.put, List.setIfInBounds_toArray, List.set_cons_zero, List.set_cons_succ]
          refine wpAnyH_take (i := 10) (v := ?va_10) rfl (by kernel_rfl) (by kernel_rfl) (by kernel_rfl) (fun _ _ _ h => h) ?hya_10 trivial ?ha_10
          case hya_10 => refine Or.inl ⟨by rfl, ?_⟩; intro w _; go_simp <;> with_reducible rfl
          try simp only [Act.put, List.setIfInBounds_toArray, List.set_cons_zero, List.set_cons_succ]
          refine wpAnyH_ready (rs := [11]) (by kernel_rfl) (by simp) ?_
          refine AllReadyH.cons rfl (fun K hK => ?_) AllReadyH.nil
          go_simp
          refine hK.out _ _ trivial (fun _ => ?_)
          clear hK K
          try simp only [Act.put, List.setIfInBounds_toArray, List.set_cons_zero, List.set_cons_succ]
          refine wpAnyH_done (by kernel_rfl) ?_ _
          have HE4 : Hid (DecE w sb rv fv xs fs sk (k + (14 + ys.length)) (w3.setCell ⟨sb, 1, none⟩ (.slice fa2 fl2 fc2)) (.slice fa2 fl2 fc2) (gs ++ [(.slice a2 ys.length c2, ys)]) j) := HE1.out.found H0.out HM.out HYS.out (trans2 HB2.out ((Below.refl _ w2).alloc (Nat.le_refl _) _)) (owns_fr HROW.out (Fr.of_below ((Below.refl _ w2).alloc (Nat.le_refl _) _) (fun _ => False)) (fun _ _ h => h)) HDQ.out HGR.out HFV2.out
          clear HDQ HGR HFV2 HROW HB2
          go_wp2
          go_roundw
          case rel => exact ⟨k + (14 + ys.length), by go_num, HE4.out.le, _, _, _, HE4.out⟩
          case measure => have := HE4.out.le; simp [intOf]; omega
        · go_simp
          refine (clone_any ⟨rb, k + 10, none⟩ _ ys.length ys _ rfl (Bys.drew HBY1.out) (by omega)).mono ?_
          rintro e w2 ⟨a2, c2, rfl, hrow2, hb2⟩
          have HROW : Hid _ := hrow2
          have HB2 : Hid (Below w1.heap.size w1 w2) := below_of_drew hb2
          have HE2 : Hid _ := HE1.out.below HB2.out
          have hd2 := HE2.out.st.c1
          have hg2 := HE2.out.st.fz 1
          clear hrow2 hb2
          go_wp2_with fail
          refine hK.out _ _ trivial (fun _ => ?_)
          clear hK K
          try simp only [Act.put, List.setIfInBounds_toArray, List.set_cons_zero, List.set_cons_succ]
          refine wpAnyH_ready (rs := [4, 7]) (by kernel_rfl) (by simp) ?_
          refine AllReadyH.cons rfl (fun K hK => ?_) (AllReadyH.cons rfl (fun K hK => ?_) AllReadyH.nil)
          · go_simp
            refine hK.out _ _ trivial (fun _ => ?_)
            clear hK K
            try simp only [Act.put, List.setIfInBounds_toArray, List.set_cons_zero, List.set_cons_succ]
            refine wpAnyH_ready (rs := [7]) (by kernel_rfl) (by simp) ?_
            refine AllReadyH.cons rfl (fun K hK => ?_) AllReadyH.nil
            go_simp
            refine hK.out _ _ trivial (fun _ => ?_)
            clear hK K
            try simp only [Act.put, List.setIfInBounds_toArray, List.set_cons_zero, List.set_cons_succ]
            have hd3 : (w2.alloc (.cells #[.slice a2 ys.length c2] 26 (0, 0))).cell? ⟨sb, 1, none⟩ = some (.slice fa fl fc) := (World.cell?_alloc_lt _ _ _ HE2.out.st.lt).trans hd2
            try simp only [Act.put, List.setIfInBounds_toArray, List.set_cons_zero, List.set_cons_succ]
            refine wpAnyH_ready (rs := [8]) (by kernel_rfl) (by simp) ?_
            refine AllReadyH.cons rfl (fun K hK => ?_) AllReadyH.nil
            refine step_app_deq rfl (.tmp 32) (.tmp 35) 22 rfl Try.underlying22 hi hz0 hz1 hz2 rfl (vals := (fs ++ gs).map (·.1)) (v := .slice fa fl fc) rfl ?deqb (ad := ⟨w2.heap.size, 0, none⟩) (c := 1) (y := .slice a2 ys.length c2) rfl (by rw [cell_blk (World.alloc_heap_new w2 _) 0]; rfl) rfl (by rw [List.length_map, List.length_append]; omega) (by decide) rfl ?_
            case deqb => exact HE2.out.st.fnd.fr (Fr.of_below ((Below.refl _ w2).alloc (Nat.le_refl _) _) (fun _ => False)) (fun _ _ h => h)
            intro fv2 w3 hdq hgr hfv2
            have HDQ : Hid _ := hdq
            have HGR : Hid _ := hgr
            have HFV2 : Hid _ := hfv2
            obtain ⟨fa2, fl2, fc2, hfv2e⟩ := hdq.slice
            clear hdq hgr hfv2
            have hsb3 : sb < (w2.alloc (.cells #[.slice a2 ys.length c2] 26 (0, 0))).heap.size := by rw [World.size_alloc]; have := HE2.out.st.lt; omega
            have HBLK : Hid (w3.heap[sb]? = w2.heap[sb]?) := (HGR.out.block sb hsb3 (fun e => HE2.out.st.ne_f sb e.symm rfl)).trans (Below.heap_alloc _ _ _ HE2.out.st.lt)
            have hd4 : w3.cell? ⟨sb, 1, none⟩ = some (.slice fa fl fc) := (World.cell?_of_block HBLK.out).trans hd2
            have hg4 : w3.frozen? ⟨sb, 1, none⟩ = false := (World.frozen?_of_block HBLK.out).trans hg2
            subst hfv2e
            refine hK.out _ _ trivial (fun _ => ?_)
            clear hK K
            try simp only [Act.put, List.setIfInBounds_toArray, List.set_cons_zero, List.set_cons_succ]
            refine wpAnyH_take (i := 9) (v := ?vb_9) rfl (by kernel_rfl) (by kernel_rfl) (by kernel_rfl) (fun _ _ _ h => h) ?hyb_9 trivial ?hb_9
            case hyb_9 => refine Or.inl ⟨by rfl, ?_⟩; intro w _; go_simp <;> with_reducible rfl
            try simp only [Act.put, List.setIfInBounds_toArray, List.set_cons_zero, List.set_cons_succ]
            refine wpAnyH_take (i := 10) (v := ?vb_10) rfl (by kernel_rfl) (by kernel_rfl) (by kernel_rfl) (fun _ _ _ h => h) ?hyb_10 trivial ?hb_10
            case hyb_10 => refine Or.inl ⟨by rfl, ?_⟩; intro w _; go_simp <;> with_reducible rfl
            try simp only [Act.put, List.setIfInBounds_toArray, List.set_cons_zero, List.set_cons_succ]
            refine wpAnyH_ready (rs := [11]) (by kernel_rfl) (by simp) ?_
            refine AllReadyH.cons rfl (fun K hK => ?_) AllReadyH.nil
            go_simp
            refine hK.out _ _ trivial (fun _ => ?_)
            clear hK K
            try simp only [Act.put, List.setIfInBounds_toArray, List.set_cons_zero, List.set_cons_succ]
            refine wpAnyH_done (by kernel_rfl) ?_ _
            have HE4 : Hid (DecE w sb rv fv xs fs sk (k + (14 + ys.length)) (w3.setCell ⟨sb, 1, none⟩ (.slice fa2 fl2 fc2)) (.slice fa2 fl2 fc2) (gs ++ [(.slice a2 ys.length c2, ys)]) j) := HE1.out.found H0.out HM.out HYS.out (trans2 HB2.out ((Below.refl _ w2).alloc (Nat.le_refl _) _)) (owns_fr HROW.out (Fr.of_below ((Below.refl _ w2).alloc (Nat.le_refl _) _) (fun _ => False)) (fun _ _ h => h)) HDQ.out HGR.out HFV2.out
            clear HDQ HGR HFV2 HROW HB2
            go_wp2
            go_roundw
            case rel => exact ⟨k + (14 + ys.length), by go_num, HE4.out.le, _, _, _, HE4.out⟩
            case measure => have := HE4.out.le; simp [intOf]; omega
          · go_simp
            refine hK.out _ _ trivial (fun _ => ?_)
            clear hK K
            try simp only [Act.put, List.setIfInBounds_toArray, List.set_cons_zero, List.set_cons_succ]
            have hd3 : (w2.alloc (.cells #[.slice a2 ys.length c2] 26 (0, 0))).cell? ⟨sb, 1, none⟩ = some (.slice fa fl fc) := (World.cell?_alloc_lt _ _ _ HE2.out.st.lt).trans hd2
            refine wpAnyH_ready (rs := [4]) (by kernel_rfl) (by simp) ?_
            refine AllReadyH.cons rfl (fun K hK => ?_) AllReadyH.nil
            go_simp
            refine hK.out _ _ trivial (fun _ => ?_)
            clear hK K
            try simp only [Act.put, List.setIfInBounds_toArray, List.set_cons_zero, List.set_cons_succ]
            refine wpAnyH_ready (rs := [8]) (by kernel_rfl) (by simp) ?_
            refine AllReadyH.cons rfl (fun K hK => ?_) AllReadyH.nil
            refine step_app_deq rfl (.tmp 32) (.tmp 35) 22 rfl Try.underlying22 hi hz0 hz1 hz2 rfl (vals := (fs ++ gs).map (·.1)) (v := .slice fa fl fc) rfl ?deqc (ad := ⟨w2.heap.size, 0, none⟩) (c := 1) (y := .slice a2 ys.length c2) rfl (by rw [cell_blk (World.alloc_heap_new w2 _) 0]; rfl) rfl (by rw [List.length_map, List.length_append]; omega) (by decide) rfl ?_
            case deqc => exact HE2.out.st.fnd.fr (Fr.of_below ((Below.refl _ w2).alloc (Nat.le_refl _) _) (fun _ => False)) (fun _ _ h => h)
            intro fv2 w3 hdq hgr hfv2
            have HDQ : Hid _ := hdq
            have HGR : Hid _ := hgr
            have HFV2 : Hid _ := hfv2
            obtain ⟨fa2, fl2, fc2, hfv2e⟩ := hdq.slice
            clear hdq hgr hfv2
            have hsb3 : sb < (w2.alloc (.cells #[.slice a2 ys.length c2] 26 (0, 0))).heap.size := by rw [World.size_alloc]; have := HE2.out.st.lt; omega
            have HBLK : Hid (w3.heap[sb]? = w2.heap[sb]?) := (HGR.out.block sb hsb3 (fun e => HE2.out.st.ne_f sb e.symm rfl)).trans (Below.heap_alloc _ _ _ HE2.out.st.lt)
            have hd4 : w3.cell? ⟨sb, 1, none⟩ = some (.slice fa fl fc) := (World.cell?_of_block HBLK.out).trans hd2
            have hg4 : w3.frozen? ⟨sb, 1, none⟩ = false := (World.frozen?_of_block HBLK.out).trans hg2
            subst hfv2e
            refine hK.out _ _ trivial (fun _ => ?_)
            clear hK K
            try simp only [Act.put, List.setIfInBounds_toArray, List.set_cons_zero, List.set_cons_succ]
            refine wpAnyH_take (i := 9) (v := ?vc_9) rfl (by kernel_rfl) (by kernel_rfl) (by kernel_rfl) (fun _ _ _ h => h) ?hyc_9 trivial ?hc_9
            case hyc_9 => refine Or.inl ⟨by rfl, ?_⟩; intro w _; go_simp <;> with_reducible rfl
            try simp only [Act.put, List.setIfInBounds_toArray, List.set_cons_zero, List.set_cons_succ]
            refine wpAnyH_take (i := 10) (v := ?vc_10) rfl (by kernel_rfl) (by kernel_rfl) (by kernel_rfl) (fun _ _ _ h => h) ?hyc_10 trivial ?hc_10
            case hyc_10 => refine Or.inl ⟨by rfl, ?_⟩; intro w _; go_simp <;> with_reducible rfl
            try simp only [Act.put, List.setIfInBounds_toArray, List.set_cons_zero, List.set_cons_succ]
            refine wpAnyH_ready (rs := [11]) (by kernel_rfl) (by simp) ?_
            refine AllReadyH.cons rfl (fun K hK => ?_) AllReadyH.nil
            go_simp
            refine hK.out _ _ trivial (fun _ => ?_)
            clear hK K
            try simp only [Act.put, List.setIfInBounds_toArray, List.set_cons_zero, List.set_cons_succ]
            refine wpAnyH_done (by kernel_rfl) ?_ _
            have HE4 : Hid (DecE w sb rv fv xs fs sk (k + (14 + ys.length)) (w3.setCell ⟨sb, 1, none⟩ (.slice fa2 fl2 fc2)) (.slice fa2 fl2 fc2) (gs ++ [(.slice a2 ys.length c2, ys)]) j) := HE1.out.found H0.out HM.out HYS.out (trans2 HB2.out ((Below.refl _ w2).alloc (Nat.le_refl _) _)) (owns_fr HROW.out (Fr.of_below ((Below.refl _ w2).alloc (Nat.le_refl _) _) (fun _ => False)) (fun _ _ h => h)) HDQ.out HGR.out HFV2.out
            clear HDQ HGR HFV2 HROW HB2
            go_wp2
            go_roundw
            case rel => exact ⟨k + (14 + ys.length), by go_num, HE4.out.le, _, _, _, HE4.out⟩
            case measure => have := HE4.out.le; simp [intOf]; omega
      · have HF : Hid _ := first_is rb k (cap - k) (xs.length - k) (xs.drop k) wr 21 h1 (by decide) hld (by omega) (by omega) hrb1 hcd hbd (by omega)
        have HX : Hid ((dec xs).2.2 = k) := hE.stop h1
        clear hE hst1 hcells HI hb h1 hbd hcd hld
        go_wp2_with (first | (go_at_call 33; refine Calls.mono HF.out ?_; rintro e w1 ⟨rfl, hb1⟩; have HE1 : Hid _ := HE.out.below hb1; clear hb1) | fail)
        go_ret
        exact ⟨by rw [HX.out]; rfl, by rw [HX.out]; exact ⟨_, _, _, HE1.out⟩⟩
      · have HF : Hid _ := first_is rb k (cap - k) (xs.length - k) (xs.drop k) wr 22 h2 (by decide) hld (by omega) (by omega) hrb1 hcd hbd (by omega)
        have H2 : Hid (fcode (xs.drop k) = 22) := h2
        clear hE hst1 hcells HI hb h2 hbd hcd hld
        go_wp2_with (first | (go_at_call 33; refine Calls.mono HF.out ?_; rintro e w1 ⟨rfl, hb1⟩; have HE1 : Hid _ := HE.out.below hb1; have hd2 := HE1.out.st.c2; have hg2 := HE1.out.st.fz 2; clear hb1) | fail)
        go_roundw
        case rel => exact ⟨k + 1, by go_num, (HE1.out.skip H2.out).le, _, _, _, HE1.out.skip H2.out⟩
        case measure => have := (HE1.out.skip H2.out).le; simp [intOf]; omega
end Go.Proofs.Ytdjibjmhjofedac
