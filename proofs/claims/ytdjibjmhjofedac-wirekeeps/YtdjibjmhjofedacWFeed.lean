/-
  Feed of a stream.
-/
import Derived.Test.YtdjibjmhjofedacWFeed1
namespace Go.Proofs.Ytdjibjmhjofedac
open Go.RowKit Go.Shelf
set_option linter.unusedVariables false
set_option linter.unusedSimpArgs false
attribute [local go_sem] Oper.semAt_some

/-- Feed's boxes, at b0 and behind. -/
structure Boxes (b0 sb : Nat) (a : Option Addr) (n c : Nat) (W : World) : Prop where
  s : W.heap[b0]? = some (.cells #[.pointer (some ⟨sb, 0, none⟩)] 31 (0, 0))
  p : W.heap[b0 + 1]? = some (.cells #[.slice a n c] 26 (0, 0))
  n : W.heap[b0 + 1 + 1]? = some (.cells #[.int .i64 65536] 3 (0, 0))

theorem Boxes.fr {S : Nat → Prop} {b0 sb n c : Nat} {a : Option Addr} {W W' : World} (h : Boxes b0 sb a n c W) (hf : Fr S W W') (hS : ∀ k, S k → k < b0 ∨ ∀ o, W.heap[k]? = some o → o.isCells = false) : Boxes b0 sb a n c W' := by
  have no : ∀ {k : Nat} {cur : Array Value} {e : TypeId}, b0 ≤ k → W.heap[k]? = some (.cells cur e (0, 0)) → ¬ S k := fun hk hb hs => by
    rcases hS _ hs with h | h
    · omega
    · have := h _ hb; cases this
  exact ⟨(hf.block _ (lt_of_blk h.s) (no (by omega) h.s)).trans h.s, (hf.block _ (lt_of_blk h.p) (no (by omega) h.p)).trans h.p, (hf.block _ (lt_of_blk h.n) (no (by omega) h.n)).trans h.n⟩

/-- Between the rounds of Feed. -/
def FeedI (w : World) (sb : Nat) (rv fv : Value) (xs : List Int) (fs : List (Value × List Int)) (sk : Nat) (a : Option Addr) (c : Nat) (ys : List Int) (s : Bool) (W : World) : Prop :=
  Boxes w.heap.size sb a ys.length c W ∧ (match s with
    | false => Below w.heap.size w W
    | true => ∃ rv' fv' gs, Fed w sb rv fv xs fs sk ys W rv' fv' gs)

theorem Fed.frd {S : Nat → Prop} {w W W' : World} {sb sk : Nat} {rv fv rv' fv' : Value} {xs ys : List Int} {fs gs : List (Value × List Int)} (h : Fed w sb rv fv xs fs sk ys W rv' fv' gs) (hf : Fr S W W') (hS : ∀ b, S b → w.heap.size ≤ b ∧ ∀ o, W.heap[b]? = some o → o.isCells = false) : Fed w sb rv fv xs fs sk ys W' rv' fv' gs := by
  have no : ∀ {k : Nat} {cur : Array Value} {e : TypeId}, W.heap[k]? = some (.cells cur e (0, 0)) → ¬ S k := fun hb hs => by
    have := (hS _ hs).2 _ hb; cases this
  have ho : ∀ {v : Value} {n : Nat} {vals : List Value}, W.ownsRow 0 5 1 v n vals → ∀ b, v.ownBlock = some b → ¬ S b := fun hv b hb => by
    obtain ⟨_, _, cur, hc⟩ := owns_kind hv b hb
    exact no hc
  exact ⟨h.st.fr hf (no h.st.blk) (ho h.st.room) (fun b hb => by obtain ⟨_, cur, hc⟩ := h.st.fnd.lt b hb; exact no hc) (fun p hp => ho (h.st.each p hp).1), h.bodies, h.fr.trans hf (fun b e => .inr (hS b e).1), h.rvf, h.fvf, h.gsf⟩

theorem FeedI.grown {w W W' : World} {sb sk c : Nat} {rv fv : Value} {xs ys : List Int} {fs : List (Value × List Int)} {a : Option Addr} {s : Bool} {row : Option Nat} {B : Nat} (h : FeedI w sb rv fv xs fs sk a c ys s W) (hB : w.heap.size ≤ B) (hg : W.grownBy W' row) (hr : ∀ r, row = some r → B ≤ r ∧ ∃ o : Obj, W.heap[r]? = some o ∧ o.isCells = false) : FeedI w sb rv fv xs fs sk a c ys s W' := by
  have hn : ∀ b, row = some b → ∀ o, W.heap[b]? = some o → o.isCells = false := fun b e o ho => by obtain ⟨_, o', ho', hc⟩ := hr b e; rw [ho] at ho'; cases ho'; exact hc
  refine ⟨h.1.fr (Fr.of_grown hg) (fun k e => .inr (hn k e)), ?_⟩
  cases s with
  | false => exact h.2.trans ((Fr.of_grown hg).below _ h.2.size (fun k e => by have := (hr k e).1; omega))
  | true =>
    obtain ⟨rv', fv', gs, hF⟩ := h.2
    exact ⟨rv', fv', gs, hF.frd (Fr.of_grown hg) (fun b e => ⟨by have := (hr b e).1; omega, hn b e⟩)⟩

theorem Fed.lift {w W W' : World} {sb sk : Nat} {rv fv rv' fv' : Value} {xs ys : List Int} {fs gs : List (Value × List Int)} (h : Fed W sb rv fv xs fs sk ys W' rv' fv' gs) (hb : Below w.heap.size w W) : Fed w sb rv fv xs fs sk ys W' rv' fv' gs := by
  have := hb.size
  exact ⟨h.st, h.bodies, (Fr.of_below hb _).trans h.fr (fun b e => .inl e), fun b e => (h.rvf b e).imp id (by omega), fun b e => (h.fvf b e).imp id (by omega), fun p hp b e => by have := h.gsf p hp b e; omega⟩

theorem feed_after {w W W' : World} {sb sk c : Nat} {a : Option Addr} {rv fv rv' fv' : Value} {xs ys : List Int} {fs gs : List (Value × List Int)} (hF : Fed W sb rv fv xs fs sk ys W' rv' fv' gs) (hw : St w sb rv fv xs fs sk) (hb : Below w.heap.size w W) (hbx : Boxes w.heap.size sb a ys.length c W) (B : Nat) :
    KeepsFrom B W W' ∧ FeedI w sb rv fv xs fs sk a c ys true W' := by
  have hW := hw.below hb
  refine ⟨(hF.fr.keeps (fun k o e ho => ?_)).from B, hbx.fr hF.fr (fun k e => .inl ?_), rv', fv', gs, hF.lift hb⟩
  · rcases e with e | e | e
    · subst e; rw [hW.blk] at ho; cases ho; rfl
    · obtain ⟨_, _, cur, hc⟩ := owns_kind hW.room k e
      rw [hc] at ho; cases ho; rfl
    · obtain ⟨_, cur, hc⟩ := hW.fnd.lt k e
      rw [hc] at ho; cases ho; rfl
  · rcases e with e | e | e
    · rw [e]; exact hw.lt
    · exact (owns_kind hw.room k e).1
    · exact (hw.fnd.lt k e).1

theorem owns_some {w : World} {base n : Nat} {e : TypeId} {v : Value} {vals : List Value} (h : w.ownsRow base e 1 v n vals) (hn : 0 < n) : ∃ g cap, v = .slice (some ⟨g, 0, none⟩) n cap ∧ n ≤ cap ∧ cap ≤ maxLen := by
  rcases h.2 with ⟨_, h0⟩ | ⟨g, cap, cur, rfl, _, _, h1, h2, _⟩
  · omega
  · exact ⟨g, cap, rfl, h1, h2⟩

theorem copy_run {w : World} {g N cap len sLen sCap : Nat} {ad : Addr} {cur : Array Value} {cs : List Value} (hg : w.heap[g]? = some (.cells cur 5 (0, 0))) (hl : cs.length = len) (hn : len = Nat.min sLen N) (hsrc : ∀ j v, cs[j]? = some v → w.cell? (ad.add j) = some v) (hfit : cs.length ≤ cur.size) (h1 : ∀ v ∈ cs, v.oneCell' = true) :
    ∃ w', (Builtin.copy_ #[26, 26] 3 #[.slice (some ⟨g, 0, none⟩) N cap, .slice (some ad) sLen sCap]).run Try.prog w.drew = .ok (.int .i64 (len : Nat)) w' ∧ w'.heap[g]? = some (.cells (splice cur.toList 0 cs).toArray 5 (0, 0)) ∧ Fr (fun b => b = g) w w' := by
  have hrun := run_copy_row (P := Try.prog) w.drew 26 26 3 5 g 0 N cap ad sLen sCap cur 5 cs Try.underlying26 (by kernel_rfl) hg (by rw [hl]; exact hn) hsrc (by omega) h1
  rw [hl] at hrun
  refine ⟨_, hrun, ?_, ⟨rfl, rfl, rfl, by simp [World.setRow], fun k hk hne => setRow_other w.drew g k _ hne⟩⟩
  have := setRow_heap w.drew g cur (cur.toList.take 0 ++ cs ++ cur.toList.drop (0 + len)).toArray 5 (0, 0) hg
  rw [this]
  simp [splice, hl]

theorem info_byte : (Try.prog.info? 5).map (fun i => (i.zero, i.size, i.bytes)) = some (some (.int .u8 0), 1, 1) := by kernel_rfl

set_option maxRecDepth 100000 in
set_option maxHeartbeats 12800000 in
theorem feed_st (sb sk c : Nat) (a : Option Addr) (rv fv : Value) (xs ys : List Int) (fs : List (Value × List Int)) (w : World) (hst : St w sb rv fv xs fs sk) (hx21 : fcode xs = 21) (hby : Bys w a ys) (hyb : Byt ys) (hy1 : ys.length ≤ 65536) (hyc : ys.length ≤ c) (hcm : c ≤ maxLen) (hm : fs.length + (xs.length + ys.length) ≤ 900000) (hsk : sk ≤ 1000000000) :
    Calls Try.prog 10 #[.pointer (some ⟨sb, 0, none⟩), .slice a ys.length c] w fun e w' => (∃ v, e = .returned v) ∧ ∃ rv' fv' gs, Fed w sb rv fv xs fs sk ys w' rv' fv' gs := by
  obtain ⟨i0, hi, hz0, hz1, hz2⟩ := info_parts info_byte
  have HW : Hid (St w sb rv fv xs fs sk) := hst
  have HBY0 : Hid (Bys w a ys) := hby
  have HBX0 : Hid (Boxes w.heap.size sb a ys.length c (((w.alloc (.cells #[.pointer (some ⟨sb, 0, none⟩)] 31)).alloc (.cells #[.slice a ys.length c] 26)).alloc (.cells #[.int .i64 65536] 3))) := by
    refine ⟨?_, ?_, ?_⟩
    · exact (Below.heap_alloc _ _ _ (by simp; omega)).trans ((Below.heap_alloc _ _ _ (by simp)).trans (World.alloc_heap_new w _))
    · refine (Below.heap_alloc _ _ _ (by simp)).trans ?_
      have := World.alloc_heap_new (w.alloc (.cells #[.pointer (some ⟨sb, 0, none⟩)] 31)) (.cells #[.slice a ys.length c] 26)
      rwa [World.size_alloc] at this
    · have := World.alloc_heap_new ((w.alloc (.cells #[.pointer (some ⟨sb, 0, none⟩)] 31)).alloc (.cells #[.slice a ys.length c] 26)) (.cells #[.int .i64 65536] 3)
      rwa [World.size_alloc, World.size_alloc] at this
  have ha : 0 < ys.length → ∃ b o, a = some ⟨b, o, none⟩ := fun h => by
    rcases hby with h0 | ⟨b, o, h0, _⟩
    · rw [h0] at h; cases h
    · exact ⟨b, o, h0⟩
  clear hst hby
  refine (callsIn_wide (n := 3)).1 ?_
  refine callsIn_of_wp_marks Try.func10 rfl trivial ?_ rfl
  simp only [Try.ntmps10, List.size_toArray, List.length_cons, List.length_nil, Nat.reduceAdd, Nat.reduceSub, Array.replicate_succ, Array.replicate_zero, List.push_toArray, List.append_toArray, List.nil_append, List.cons_append]
  gi_wp2_with (refine ⟨trivial, ?_⟩; gi_at_call 29; refine (callsIn_wide.2 (chunk_any _ _ _ _)).mono ?_; rintro e w' ⟨rfl, rfl⟩)
  obtain ⟨W0, hW0⟩ : ∃ W0, (((w.alloc (.cells #[.pointer (some ⟨sb, 0, none⟩)] 31)).alloc (.cells #[.slice a ys.length c] 26)).alloc (.cells #[.int .i64 65536] 3)) = W0 := ⟨_, rfl⟩
  have hbel0 : Below w.heap.size w W0 := by rw [← hW0]; exact (((Below.refl _ w).alloc (Nat.le_refl _) _).alloc (by simp) _).alloc (by simp; omega) _
  rw [hW0] at HBX0
  try rw [hW0]
  have hB0 : w.heap.size ≤ W0.heap.size := hbel0.size
  have h00 : FeedI w sb rv fv xs fs sk a c ys false W0 := ⟨HBX0.out, hbel0⟩
  refine wpIn_range_st (σ := Bool) (α := Value) rfl (by decide) (gf := 40) (lb := #[.pointer (some ⟨w.heap.size + 1, 0, none⟩), .pointer (some ⟨w.heap.size + 1 + 1, 0, none⟩)]) ?gg trivial (enters_of Try.func40 (by kernel_rfl) rfl)
    (encs := fun v => #[v]) (fun _ => rfl)
    (I := FeedI w sb rv fv xs fs sk a c ys)
    (X := fun c W => False)
    (chunk_seq _ a ys.length c (w.heap.size + 1) (w.heap.size + 1 + 1) _ hy1 hyc hcm ha _ _ (fun s W h => ⟨(cell_blk h.1.p 0).trans rfl, (cell_blk h.1.n 0).trans rfl⟩) (fun s W k h => h.grown hB0 (row := none) ⟨rfl, rfl, rfl, Nat.le_refl _, fun _ _ _ => rfl⟩ (fun r e => by cases e)))
    (fun s A C row hs hg hr => hs.grown hB0 hg hr)
    (fun s x _ A C row hs hg hr => ⟨hs.1, hs.2.1, hs.2.2.1, hs.2.2.2.grown hB0 hg hr⟩)
    (fun c A C row hs hg hr => hs)
    (fun _ A C row hs hg hr => hs.imp (fun h => ⟨h.1, h.2.grown hB0 hg hr⟩) (fun h => ⟨h.1, h.2.grown hB0 hg hr⟩))
    h00
    (fun x => { tmps := #[.pointer (some ⟨sb, 0, none⟩), .slice a ys.length c, .pointer (some ⟨w.heap.size, 0, none⟩), undef, x, undef, undef, .pointer (some ⟨sb, 0, none⟩), .bool false, .slice a ys.length c, .func (.func 40) #[] #[.pointer (some ⟨w.heap.size + 1, 0, none⟩), .pointer (some ⟨w.heap.size + 1 + 1, 0, none⟩)], x, undef, undef, undef, undef, undef, undef, undef, undef, undef, undef, undef, undef, undef, undef, undef, undef, undef, undef, undef, undef, undef, undef, undef, undef, undef, undef, undef, undef, undef, undef, undef], defers := [] }) ?assign ?body ?done ?stop
  case gg => rfl
  case assign =>
    intro l x W K hK
    gi_wp2
    exact hK
  case done =>
    rintro D W hD hE hK
    obtain ⟨rv', fv', gs, hF⟩ : ∃ rv' fv' gs, Fed w sb rv fv xs fs sk ys W rv' fv' gs := by
      rcases hE with ⟨h0, _, hb⟩ | ⟨_, _, h⟩
      · have hys : ys = [] := List.eq_nil_of_length_eq_zero h0
        subst hys
        refine ⟨rv, fv, [], ?_, ?_, Fr.of_below hb _, fun b e => .inl e, fun b e => .inl e, fun p hp => by cases hp⟩
        · rw [List.append_nil, dec_stop hx21, List.append_nil]
          exact HW.out.below hb
        · rw [List.append_nil, dec_stop hx21]
          rfl
      · exact h
    have HF : Hid (Fed w sb rv fv xs fs sk ys W rv' fv' gs) := hF
    clear hF hE h00 HBX0 ha hW0
    gi_wp2
    refine ⟨by simp, .inl ⟨_, _, rfl, run_takeDeferred hK, ?_⟩⟩
    exact ⟨_, results_none rfl _ _ _, ⟨_, rfl⟩, rv', fv', gs, HF.out.frd (Fr.of_grown (grownBy_putObj' W D (.deferred none))) (fun b e => by cases e; exact ⟨by omega, fun o ho => by rw [hK] at ho; cases ho; rfl⟩)⟩
  case stop =>
    rintro D c W hD h hK
    exact h.elim
  case body =>
    rintro l s x W hlB ⟨r, hr⟩ ⟨hpos, rfl, rfl, hbx, hbel⟩
    obtain ⟨ab, ao, rfl⟩ := ha hpos
    have hyl0 : ys ≠ [] := fun e => by rw [e] at hpos; cases hpos
    have hst1 : St W sb rv fv xs fs sk := HW.out.below hbel
    have HST : Hid (St W sb rv fv xs fs sk) := hst1
    have HBX : Hid (Boxes w.heap.size sb (some ⟨ab, ao, none⟩) ys.length c W) := hbx
    have HBY : Hid (Bys W (some ⟨ab, ao, none⟩) ys) := HBY0.out.below hbel
    have HBEL : Hid (Below w.heap.size w W) := hbel
    have hcb : W.cell? ⟨w.heap.size, 0, none⟩ = some (.pointer (some ⟨sb, 0, none⟩)) := (cell_blk hbx.s 0).trans rfl
    obtain ⟨ra, rn, rc, hrv⟩ := owns_slice hst1.room
    have hc0 : W.cell? ⟨sb, 0, none⟩ = some (.slice ra rn rc) := by rw [← hrv]; exact hst1.c0
    have hf0 := hst1.fz 0
    have hnsb : w.heap.size ≠ sb := by have := HW.out.lt; omega
    have hnsb' : sb ≠ w.heap.size := Ne.symm hnsb
    clear hst1 hbx hbel h00 HBX0 ha hr hbel0 hW0
    gi_wp2
    refine region_round (S := (fun w' => w'.cell? ⟨w.heap.size, 0, none⟩ = some (.pointer (some ⟨sb, 0, none⟩)))) (by kernel_rfl) (by kernel_rfl) (by rintro ⟨a, w, h⟩; exact h) hcb (fun hHeld => ?_)
    refine wpAnyH_take (i := 0) (v := ?va_0) rfl (by kernel_rfl) (by kernel_rfl) (by kernel_rfl) (fun _ _ _ h => h) ?hya_0 hHeld ?ha_0
    case hya_0 => refine Or.inl ⟨by rfl, ?_⟩; intro w hSw; obtain hh := hSw; go_simp <;> with_reducible rfl
    try simp only [List.getElem_toArray, List.getElem_cons_succ, List.getElem_cons_zero, Act.put, List.setIfInBounds_toArray, List.set_cons_zero, List.set_cons_succ]
    refine wpAnyH_take (i := 1) (v := ?va_1) rfl (by kernel_rfl) (by kernel_rfl) (by kernel_rfl) (fun _ _ _ h => h) ?hya_1 hHeld ?ha_1
    case hya_1 => refine Or.inl ⟨by rfl, ?_⟩; intro w hSw; obtain hh := hSw; go_simp <;> with_reducible rfl
    try simp only [List.getElem_toArray, List.getElem_cons_succ, List.getElem_cons_zero, Act.put, List.setIfInBounds_toArray, List.set_cons_zero, List.set_cons_succ]
    refine wpAnyH_take (i := 2) (v := ?va_2) rfl (by kernel_rfl) (by kernel_rfl) (by kernel_rfl) (fun _ _ _ h => h) ?hya_2 hHeld ?ha_2
    case hya_2 => refine Or.inl ⟨by rfl, ?_⟩; intro w hSw; obtain hh := hSw; go_simp <;> with_reducible rfl
    try simp only [List.getElem_toArray, List.getElem_cons_succ, List.getElem_cons_zero, Act.put, List.setIfInBounds_toArray, List.set_cons_zero, List.set_cons_succ]
    refine wpAnyH_take (i := 3) (v := ?va_3) rfl (by kernel_rfl) (by kernel_rfl) (by kernel_rfl) (fun _ _ _ h => h) ?hya_3 hHeld ?ha_3
    case hya_3 => refine Or.inl ⟨by rfl, ?_⟩; intro w hSw; obtain hh := hSw; go_simp <;> with_reducible rfl
    try simp only [List.getElem_toArray, List.getElem_cons_succ, List.getElem_cons_zero, Act.put, List.setIfInBounds_toArray, List.set_cons_zero, List.set_cons_succ]
    refine wpAnyH_take (i := 5) (v := ?va_5) rfl (by kernel_rfl) (by kernel_rfl) (by kernel_rfl) (fun _ _ _ h => h) ?hya_5 hHeld ?ha_5
    case hya_5 => refine Or.inl ⟨by rfl, ?_⟩; intro w hSw; obtain hh := hSw; go_simp <;> with_reducible rfl
    try simp only [List.getElem_toArray, List.getElem_cons_succ, List.getElem_cons_zero, Act.put, List.setIfInBounds_toArray, List.set_cons_zero, List.set_cons_succ]
    refine wpAnyH_ready (rs := [4]) (by kernel_rfl) (by simp) ?_
    refine AllReadyH.cons rfl (fun K hK => ?_) AllReadyH.nil
    go_simp
    refine hK.out _ _ hcb (fun hHeld => ?_)
    clear hK K
    try simp only [List.getElem_toArray, List.getElem_cons_succ, List.getElem_cons_zero, Act.put, List.setIfInBounds_toArray, List.set_cons_zero, List.set_cons_succ]
    refine wpAnyH_ready (rs := [6]) (by kernel_rfl) (by simp) ?_
    refine AllReadyH.cons rfl (fun K hK => ?_) AllReadyH.nil
    refine step_app_row rfl (.tmp 16) (.tmp 17) 26 rfl Try.underlying26 hi hz0 hz1 hz2 rfl (v := .slice ra rn rc) (vals := bv xs) rfl ?row (ad := ⟨ab, ao, none⟩) (m := ys.length) (c := ys.length) (news := bv ys) rfl (bv_len _) (cells_at (Bys.drew HBY.out)) (bv_one _) (by rw [bv_len]; omega) (by decide) ?_
    case row => rw [bv_len, ← hrv]; exact HST.out.room
    intro rv1 w1 hr1 hg1 hf1
    obtain ⟨N, hN⟩ : ∃ N, N = (xs ++ ys).length := ⟨_, rfl⟩
    have hNpos : 0 < (xs ++ ys).length := by rw [List.length_append]; omega
    rw [← bv_append, bv_len] at hr1
    have HR1 : Hid (w1.ownsRow 0 5 1 rv1 (xs ++ ys).length (bv (xs ++ ys))) := hr1
    have HG1 : Hid (W.grownBy w1 rv.ownBlock) := by rw [hrv]; exact ⟨hg1.os, hg1.tape, hg1.output, hg1.size, hg1.block⟩
    have HF1 : Hid (∀ k, rv1.ownBlock = some k → rv.ownBlock = some k ∨ W.heap.size ≤ k) := by rw [hrv]; exact hf1
    obtain ⟨g, cap, hrv1, hNc, hcapm⟩ := owns_some hr1 hNpos
    rw [← hN] at hrv1 hNc
    have HN : Hid (N = (xs ++ ys).length) := hN
    clear hN
    clear hr1 hg1 hf1
    have hblk1 : w1.heap[sb]? = W.heap[sb]? := HG1.out.block sb HST.out.lt (fun e => (HST.out.ne_r sb e.symm).1 rfl)
    have hbox1 : w1.heap[w.heap.size]? = W.heap[w.heap.size]? := HG1.out.block _ (lt_of_blk HBX.out.s) (fun e => by have := (owns_kind HW.out.room _ e.symm).1; omega)
    have hd0 : w1.cell? ⟨sb, 0, none⟩ = some (.slice ra rn rc) := (World.cell?_of_block hblk1).trans hc0
    have hdf : w1.frozen? ⟨sb, 0, none⟩ = false := (World.frozen?_of_block hblk1).trans hf0
    have hdb : w1.cell? ⟨w.heap.size, 0, none⟩ = some (.pointer (some ⟨sb, 0, none⟩)) := (World.cell?_of_block hbox1).trans hcb
    clear hblk1 hbox1
    subst hrv1
    refine hK.out _ _ hdb (fun hHeld => ?_)
    clear hK K
    try simp only [List.getElem_toArray, List.getElem_cons_succ, List.getElem_cons_zero, Act.put, List.setIfInBounds_toArray, List.set_cons_zero, List.set_cons_succ]
    refine wpAnyH_take (i := 7) (v := ?vb_7) rfl (by kernel_rfl) (by kernel_rfl) (by kernel_rfl) (fun _ _ _ h => h) ?hyb_7 hHeld ?hb_7
    case hyb_7 => refine Or.inl ⟨by rfl, ?_⟩; intro w hSw; obtain hh := hSw; go_simp <;> with_reducible rfl
    try simp only [List.getElem_toArray, List.getElem_cons_succ, List.getElem_cons_zero, Act.put, List.setIfInBounds_toArray, List.set_cons_zero, List.set_cons_succ]
    refine wpAnyH_take (i := 8) (v := ?vb_8) rfl (by kernel_rfl) (by kernel_rfl) (by kernel_rfl) (fun _ _ _ h => h) ?hyb_8 hHeld ?hb_8
    case hyb_8 => refine Or.inl ⟨by rfl, ?_⟩; intro w hSw; obtain hh := hSw; go_simp <;> with_reducible rfl
    try simp only [List.getElem_toArray, List.getElem_cons_succ, List.getElem_cons_zero, Act.put, List.setIfInBounds_toArray, List.set_cons_zero, List.set_cons_succ]
    refine wpAnyH_ready (rs := [9]) (by kernel_rfl) (by simp) ?_
    refine AllReadyH.cons rfl (fun K hK => ?_) AllReadyH.nil
    go_simp
    have hdb2 : (w1.setCell ⟨sb, 0, none⟩ (.slice (some ⟨g, 0, none⟩) N cap)).cell? ⟨w.heap.size, 0, none⟩ = some (.pointer (some ⟨sb, 0, none⟩)) := (World.cell?_setCell_far _ _ _ _ hnsb').trans hdb
    refine hK.out _ _ hdb2 (fun hHeld => ?_)
    clear hK K
    try simp only [List.getElem_toArray, List.getElem_cons_succ, List.getElem_cons_zero, Act.put, List.setIfInBounds_toArray, List.set_cons_zero, List.set_cons_succ]
    refine wpAnyH_done (by kernel_rfl) ?_ _
    obtain ⟨W2, hW2⟩ : ∃ W2, w1.setCell ⟨sb, 0, none⟩ (.slice (some ⟨g, 0, none⟩) N cap) = W2 := ⟨_, rfl⟩
    obtain ⟨hst2, hfr2⟩ := HST.out.fed hyb HR1.out HG1.out HF1.out
    rw [hW2] at hst2 hfr2 hdb2 ⊢
    have HS2 : Hid (St W2 sb (.slice (some ⟨g, 0, none⟩) N cap) fv (xs ++ ys) fs sk) := hst2
    have HFR2 : Hid (Fr (fun b => b = sb ∨ rv.ownBlock = some b) W W2) := hfr2
    have hne2 : xs ++ ys ≠ [] := by simp [hyl0]
    have hrvn : rv.ownBlock ≠ some sb ∧ True := ⟨fun e => (HW.out.ne_r sb e).1 rfl, trivial⟩
    obtain ⟨TH, hTH⟩ : ∃ TH, TH = (dec (xs ++ ys)).2.2 := ⟨_, rfl⟩
    have hTN : TH ≤ N := by rw [hTH, HN.out]; exact dec_through _
    have HD : Hid (Calls Try.prog 30 #[.pointer (some ⟨sb, 0, none⟩)] W2 fun e w' => e = .returned (.int .i64 (TH : Nat)) ∧ DecI W2 sb (.slice (some ⟨g, 0, none⟩) N cap) fv (xs ++ ys) fs sk TH w') := by rw [hTH]; exact decide_any sb _ fv (xs ++ ys) fs sk W2 hst2 hne2 (by rw [List.length_append]; omega) (by rw [List.length_append]; omega) hsk
    have HTH : Hid (TH = (dec (xs ++ ys)).2.2) := hTH
    have HBX2 : Hid (Boxes w.heap.size sb (some ⟨ab, ao, none⟩) ys.length c W2) := HBX.out.fr hfr2 (fun k e => .inl (e.elim (fun e => by rw [e]; exact HW.out.lt) (fun e => (owns_kind HW.out.room k e).1)))
    clear hst2 hfr2 hcb hc0 hf0 hd0 hdf hdb hW2 hHeld hTH hNpos hrvn hne2
    gi_wp2_with (refine ⟨trivial, ?_⟩; gi_at_call 30; refine (CallsIn.inRound l (callsIn_wide.2 HD.out)).mono ?_; rintro e W3 ⟨rfl, fv2, gs, j, hE⟩; have HE : Hid _ := hE; have HBX3 : Hid (Boxes w.heap.size sb (some ⟨ab, ao, none⟩) ys.length c W3) := HBX2.out.fr hE.fr (fun k e => .inl (e.elim (fun e => by rw [e]; exact HW.out.lt) (fun e => (HW.out.fnd.lt k e).1))); have hcb3 : W3.cell? ⟨w.heap.size, 0, none⟩ = some (.pointer (some ⟨sb, 0, none⟩)) := (cell_blk HBX3.out.s 0).trans rfl; have hc3 : W3.cell? ⟨sb, 0, none⟩ = some (.slice (some ⟨g, 0, none⟩) N cap) := HE.out.st.c0; have hf3 := HE.out.st.fz 0; clear hE)
    have hTNI : (TH : Int) ≤ (N : Int) := by omega
    have hNcI : (N : Int) ≤ (cap : Int) := by omega
    have hcap2 := hcapm
    unfold maxLen at hcap2
    obtain ⟨cur, hcur, hcurs, hcurt⟩ : ∃ cur, W3.heap[g]? = some (.cells cur 5 (0, 0)) ∧ cur.size = cap ∧ cur.toList.take N = bv (xs ++ ys) := by
      have h := HE.out.st.room
      rw [← HN.out] at h
      rcases h.2 with ⟨h, _⟩ | ⟨g2, cap2, cur, h, _, hg, _, _, hs, ht⟩
      · cases h
      · cases h; exact ⟨cur, hg, by omega, by simpa using ht⟩
    have HCUR : Hid (W3.heap[g]? = some (.cells cur 5 (0, 0)) ∧ cur.size = cap ∧ cur.toList.take N = bv (xs ++ ys)) := ⟨hcur, hcurs, hcurt⟩
    obtain ⟨CS, hCS⟩ : ∃ CS, CS = (bv (xs ++ ys)).drop TH := ⟨_, rfl⟩
    have hCSl : CS.length = N - TH := by rw [hCS, List.length_drop, bv_len, HN.out]
    have HCS : Hid (CS = (bv (xs ++ ys)).drop TH) := hCS
    have HSRC : Hid (∀ j v, CS[j]? = some v → W3.cell? ⟨g, TH + j, none⟩ = some v) := by
      intro j v hv
      have hj : j < N - TH := by rw [← hCSl]; exact (List.getElem?_eq_some_iff.1 hv).1
      rw [hCS, List.getElem?_drop, ← hcurt, List.getElem?_take, if_pos (by omega)] at hv
      rw [cell_blk hcur, ← Array.getElem?_toList]
      exact hv
    have HONE : Hid (∀ v ∈ CS, v.oneCell' = true) := fun v hv => bv_one (xs ++ ys) v (by rw [hCS] at hv; exact List.mem_of_mem_drop hv)
    clear hcur hcurs hcurt hCS
    by_cases hTc : TH = cap
    · have hTc2 := hTc.symm
      clear hTc
      subst hTc2
      obtain ⟨W4, hrun, hg4, hf4⟩ := copy_run (w := W3) (g := g) (N := N) (cap := cap) (len := 0) (sLen := 0) (sCap := 0) (ad := ⟨g, 0, none⟩) (cs := CS) HCUR.out.1 (by rw [hCSl]; omega) (Nat.min_eq_left (Nat.zero_le _)).symm (fun j v hv => by rw [addr_add]; exact absurd (List.getElem?_eq_some_iff.1 hv).1 (by omega)) (by rw [hCSl, HCUR.out.2.1]; omega) HONE.out
      refine region_round (S := (fun w' => w'.cell? ⟨w.heap.size, 0, none⟩ = some (.pointer (some ⟨sb, 0, none⟩)) ∧ w'.cell? ⟨sb, 0, none⟩ = some (.slice (some ⟨g, 0, none⟩) N cap))) (by kernel_rfl) (by kernel_rfl) (by rintro ⟨a, w, h⟩; exact h) ⟨hcb3, hc3⟩ (fun hHeld => ?_)
      refine wpAnyH_take (i := 0) (v := ?vpc_0) rfl (by kernel_rfl) (by kernel_rfl) (by kernel_rfl) (fun _ _ _ h => h) ?hypc_0 hHeld ?hpc_0
      case hypc_0 => refine Or.inl ⟨by rfl, ?_⟩; intro w hSw; obtain ⟨h1, h2⟩ := hSw; go_simp <;> with_reducible rfl
      try simp only [List.getElem_toArray, List.getElem_cons_succ, List.getElem_cons_zero, Act.put, List.setIfInBounds_toArray, List.set_cons_zero, List.set_cons_succ]
      refine wpAnyH_take (i := 1) (v := ?vpc_1) rfl (by kernel_rfl) (by kernel_rfl) (by kernel_rfl) (fun _ _ _ h => h) ?hypc_1 hHeld ?hpc_1
      case hypc_1 => refine Or.inl ⟨by rfl, ?_⟩; intro w hSw; obtain ⟨h1, h2⟩ := hSw; go_simp <;> with_reducible rfl
      try simp only [List.getElem_toArray, List.getElem_cons_succ, List.getElem_cons_zero, Act.put, List.setIfInBounds_toArray, List.set_cons_zero, List.set_cons_succ]
      refine wpAnyH_take (i := 2) (v := ?vpc_2) rfl (by kernel_rfl) (by kernel_rfl) (by kernel_rfl) (fun _ _ _ h => h) ?hypc_2 hHeld ?hpc_2
      case hypc_2 => refine Or.inl ⟨by rfl, ?_⟩; intro w hSw; obtain ⟨h1, h2⟩ := hSw; go_simp <;> with_reducible rfl
      try simp only [List.getElem_toArray, List.getElem_cons_succ, List.getElem_cons_zero, Act.put, List.setIfInBounds_toArray, List.set_cons_zero, List.set_cons_succ]
      refine wpAnyH_take (i := 3) (v := ?vpc_3) rfl (by kernel_rfl) (by kernel_rfl) (by kernel_rfl) (fun _ _ _ h => h) ?hypc_3 hHeld ?hpc_3
      case hypc_3 => refine Or.inl ⟨by rfl, ?_⟩; intro w hSw; obtain ⟨h1, h2⟩ := hSw; go_simp <;> with_reducible rfl
      try simp only [List.getElem_toArray, List.getElem_cons_succ, List.getElem_cons_zero, Act.put, List.setIfInBounds_toArray, List.set_cons_zero, List.set_cons_succ]
      refine wpAnyH_take (i := 4) (v := ?vpc_4) rfl (by kernel_rfl) (by kernel_rfl) (by kernel_rfl) (fun _ _ _ h => h) ?hypc_4 hHeld ?hpc_4
      case hypc_4 => refine Or.inl ⟨by rfl, ?_⟩; intro w hSw; obtain ⟨h1, h2⟩ := hSw; go_simp <;> with_reducible rfl
      try simp only [List.getElem_toArray, List.getElem_cons_succ, List.getElem_cons_zero, Act.put, List.setIfInBounds_toArray, List.set_cons_zero, List.set_cons_succ]
      refine wpAnyH_take (i := 5) (v := ?vpc_5) rfl (by kernel_rfl) (by kernel_rfl) (by kernel_rfl) (fun _ _ _ h => h) ?hypc_5 hHeld ?hpc_5
      case hypc_5 => refine Or.inl ⟨by rfl, ?_⟩; intro w hSw; obtain ⟨h1, h2⟩ := hSw; go_simp <;> with_reducible rfl
      try simp only [List.getElem_toArray, List.getElem_cons_succ, List.getElem_cons_zero, Act.put, List.setIfInBounds_toArray, List.set_cons_zero, List.set_cons_succ]
      refine wpAnyH_take (i := 6) (v := ?vpc_6) rfl (by kernel_rfl) (by kernel_rfl) (by kernel_rfl) (fun _ _ _ h => h) ?hypc_6 hHeld ?hpc_6
      case hypc_6 => refine Or.inl ⟨by rfl, ?_⟩; intro w hSw; obtain ⟨h1, h2⟩ := hSw; go_simp <;> with_reducible rfl
      try simp only [List.getElem_toArray, List.getElem_cons_succ, List.getElem_cons_zero, Act.put, List.setIfInBounds_toArray, List.set_cons_zero, List.set_cons_succ]
      refine wpAnyH_take (i := 7) (v := ?vpc_7) rfl (by kernel_rfl) (by kernel_rfl) (by kernel_rfl) (fun _ _ _ h => h) ?hypc_7 hHeld ?hpc_7
      case hypc_7 => refine Or.inl ⟨by rfl, ?_⟩; intro w hSw; obtain ⟨h1, h2⟩ := hSw; go_simp <;> with_reducible rfl
      try simp only [List.getElem_toArray, List.getElem_cons_succ, List.getElem_cons_zero, Act.put, List.setIfInBounds_toArray, List.set_cons_zero, List.set_cons_succ]
      refine wpAnyH_take (i := 8) (v := ?vpc_8) rfl (by kernel_rfl) (by kernel_rfl) (by kernel_rfl) (fun _ _ _ h => h) ?hypc_8 hHeld ?hpc_8
      case hypc_8 => refine Or.inl ⟨by rfl, ?_⟩; intro w hSw; obtain ⟨h1, h2⟩ := hSw; go_simp <;> with_reducible rfl
      try simp only [List.getElem_toArray, List.getElem_cons_succ, List.getElem_cons_zero, Act.put, List.setIfInBounds_toArray, List.set_cons_zero, List.set_cons_succ]
      refine wpAnyH_take (i := 9) (v := ?vpc_9) rfl (by kernel_rfl) (by kernel_rfl) (by kernel_rfl) (fun _ _ _ h => h) ?hypc_9 hHeld ?hpc_9
      case hypc_9 => refine Or.inl ⟨by rfl, ?_⟩; intro w hSw; obtain ⟨h1, h2⟩ := hSw; go_simp <;> with_reducible rfl
      try simp only [List.getElem_toArray, List.getElem_cons_succ, List.getElem_cons_zero, Act.put, List.setIfInBounds_toArray, List.set_cons_zero, List.set_cons_succ]
      refine wpAnyH_ready (rs := [10]) (by kernel_rfl) (by simp) ?_
      refine AllReadyH.cons rfl (fun K hK => ?_) AllReadyH.nil
      go_simp
      have HG4 : Hid _ := hg4
      have HF4 : Hid (Fr (fun b => b = g) W3 W4) := hf4
      have hgs : g ≠ sb := (HE.out.st.ne_r g rfl).1
      have hgw : w.heap.size ≠ g ∨ True := .inr trivial
      have hgb : g ≠ w.heap.size := fun e => by have h := HBX3.out.s; rw [← e, HCUR.out.1] at h; cases h
      have hc4 : W4.cell? ⟨sb, 0, none⟩ = some (.slice (some ⟨g, 0, none⟩) N cap) := (World.cell?_of_block (HF4.out.block sb HE.out.st.lt (fun e => hgs e.symm))).trans hc3
      have hz4 : W4.frozen? ⟨sb, 0, none⟩ = false := (World.frozen?_of_block (HF4.out.block sb HE.out.st.lt (fun e => hgs e.symm))).trans hf3
      have hcb4 : W4.cell? ⟨w.heap.size, 0, none⟩ = some (.pointer (some ⟨sb, 0, none⟩)) := (World.cell?_of_block (HF4.out.block _ (lt_of_blk HBX3.out.s) (fun e => hgb e.symm))).trans hcb3
      clear hg4 hf4 hgw hrun
      refine hK.out _ _ ⟨hcb4, hc4⟩ (fun hHeld => ?_)
      clear hK K
      try simp only [List.getElem_toArray, List.getElem_cons_succ, List.getElem_cons_zero, Act.put, List.setIfInBounds_toArray, List.set_cons_zero, List.set_cons_succ]
      refine wpAnyH_take (i := 11) (v := ?vpd_11) rfl (by kernel_rfl) (by kernel_rfl) (by kernel_rfl) (fun _ _ _ h => h) ?hypd_11 hHeld ?hpd_11
      case hypd_11 => refine Or.inl ⟨by rfl, ?_⟩; intro w hSw; obtain ⟨h1, h2⟩ := hSw; go_simp <;> with_reducible rfl
      try simp only [List.getElem_toArray, List.getElem_cons_succ, List.getElem_cons_zero, Act.put, List.setIfInBounds_toArray, List.set_cons_zero, List.set_cons_succ]
      refine wpAnyH_done (by kernel_rfl) ?_ _
      clear hcb3 hc3 hf3 hHeld
      gi_wp2
      have hlI : ((0 : Nat) : Int) ≤ (cap : Int) := by omega
      refine region_round (S := (fun w' => w'.cell? ⟨w.heap.size, 0, none⟩ = some (.pointer (some ⟨sb, 0, none⟩)))) (by kernel_rfl) (by kernel_rfl) (by rintro ⟨a, w, h⟩; exact h) hcb4 (fun hHeld => ?_)
      refine wpAnyH_take (i := 0) (v := ?vpe_0) rfl (by kernel_rfl) (by kernel_rfl) (by kernel_rfl) (fun _ _ _ h => h) ?hype_0 hHeld ?hpe_0
      case hype_0 => refine Or.inl ⟨by rfl, ?_⟩; intro w hSw; obtain hh := hSw; go_simp <;> with_reducible rfl
      try simp only [List.getElem_toArray, List.getElem_cons_succ, List.getElem_cons_zero, Act.put, List.setIfInBounds_toArray, List.set_cons_zero, List.set_cons_succ]
      refine wpAnyH_take (i := 1) (v := ?vpe_1) rfl (by kernel_rfl) (by kernel_rfl) (by kernel_rfl) (fun _ _ _ h => h) ?hype_1 hHeld ?hpe_1
      case hype_1 => refine Or.inl ⟨by rfl, ?_⟩; intro w hSw; obtain hh := hSw; go_simp <;> with_reducible rfl
      try simp only [List.getElem_toArray, List.getElem_cons_succ, List.getElem_cons_zero, Act.put, List.setIfInBounds_toArray, List.set_cons_zero, List.set_cons_succ]
      refine wpAnyH_take (i := 2) (v := ?vpe_2) rfl (by kernel_rfl) (by kernel_rfl) (by kernel_rfl) (fun _ _ _ h => h) ?hype_2 hHeld ?hpe_2
      case hype_2 => refine Or.inl ⟨by rfl, ?_⟩; intro w hSw; obtain hh := hSw; go_simp <;> with_reducible rfl
      try simp only [List.getElem_toArray, List.getElem_cons_succ, List.getElem_cons_zero, Act.put, List.setIfInBounds_toArray, List.set_cons_zero, List.set_cons_succ]
      refine wpAnyH_take (i := 3) (v := ?vpe_3) rfl (by kernel_rfl) (by kernel_rfl) (by kernel_rfl) (fun _ _ _ h => h) ?hype_3 hHeld ?hpe_3
      case hype_3 => refine Or.inl ⟨by rfl, ?_⟩; intro w hSw; obtain hh := hSw; go_simp <;> with_reducible rfl
      try simp only [List.getElem_toArray, List.getElem_cons_succ, List.getElem_cons_zero, Act.put, List.setIfInBounds_toArray, List.set_cons_zero, List.set_cons_succ]
      refine wpAnyH_take (i := 5) (v := ?vpe_5) rfl (by kernel_rfl) (by kernel_rfl) (by kernel_rfl) (fun _ _ _ h => h) ?hype_5 hHeld ?hpe_5
      case hype_5 => refine Or.inl ⟨by rfl, ?_⟩; intro w hSw; obtain hh := hSw; go_simp <;> with_reducible rfl
      try simp only [List.getElem_toArray, List.getElem_cons_succ, List.getElem_cons_zero, Act.put, List.setIfInBounds_toArray, List.set_cons_zero, List.set_cons_succ]
      refine wpAnyH_ready (rs := [4]) (by kernel_rfl) (by simp) ?_
      refine AllReadyH.cons rfl (fun K hK => ?_) AllReadyH.nil
      go_simp
      refine hK.out _ _ hcb4 (fun hHeld => ?_)
      clear hK K
      try simp only [List.getElem_toArray, List.getElem_cons_succ, List.getElem_cons_zero, Act.put, List.setIfInBounds_toArray, List.set_cons_zero, List.set_cons_succ]
      refine wpAnyH_take (i := 6) (v := ?vpf_6) rfl (by kernel_rfl) (by kernel_rfl) (by kernel_rfl) (fun _ _ _ h => h) ?hypf_6 hHeld ?hpf_6
      case hypf_6 => refine Or.inl ⟨by rfl, ?_⟩; intro w hSw; obtain hh := hSw; go_simp <;> with_reducible rfl
      try simp only [List.getElem_toArray, List.getElem_cons_succ, List.getElem_cons_zero, Act.put, List.setIfInBounds_toArray, List.set_cons_zero, List.set_cons_succ]
      refine wpAnyH_take (i := 7) (v := ?vpf_7) rfl (by kernel_rfl) (by kernel_rfl) (by kernel_rfl) (fun _ _ _ h => h) ?hypf_7 hHeld ?hpf_7
      case hypf_7 => refine Or.inl ⟨by rfl, ?_⟩; intro w hSw; obtain hh := hSw; go_simp <;> with_reducible rfl
      try simp only [List.getElem_toArray, List.getElem_cons_succ, List.getElem_cons_zero, Act.put, List.setIfInBounds_toArray, List.set_cons_zero, List.set_cons_succ]
      refine wpAnyH_take (i := 8) (v := ?vpf_8) rfl (by kernel_rfl) (by kernel_rfl) (by kernel_rfl) (fun _ _ _ h => h) ?hypf_8 hHeld ?hpf_8
      case hypf_8 => refine Or.inl ⟨by rfl, ?_⟩; intro w hSw; obtain hh := hSw; go_simp <;> with_reducible rfl
      try simp only [List.getElem_toArray, List.getElem_cons_succ, List.getElem_cons_zero, Act.put, List.setIfInBounds_toArray, List.set_cons_zero, List.set_cons_succ]
      refine wpAnyH_ready (rs := [9]) (by kernel_rfl) (by simp) ?_
      refine AllReadyH.cons rfl (fun K hK => ?_) AllReadyH.nil
      go_simp
      have hcb5 : (W4.drew.setCell ⟨sb, 0, none⟩ (.slice (some ⟨g, 0, none⟩) 0 cap)).cell? ⟨w.heap.size, 0, none⟩ = some (.pointer (some ⟨sb, 0, none⟩)) := (World.cell?_setCell_far _ _ _ _ hnsb').trans hcb4
      refine hK.out _ _ hcb5 (fun hHeld => ?_)
      clear hK K
      try simp only [List.getElem_toArray, List.getElem_cons_succ, List.getElem_cons_zero, Act.put, List.setIfInBounds_toArray, List.set_cons_zero, List.set_cons_succ]
      refine wpAnyH_done (by kernel_rfl) ?_ _
      obtain ⟨hst5, hfr5⟩ := St.moved (w1 := W4.drew) HE.out.st HN.out (by rw [← HN.out]; exact hTN) (cur := cur.toList) (by rw [Array.length_toList]; exact HCUR.out.2.1) hNc hcapm (by rw [← HCS.out]; exact HG4.out) ⟨HF4.out.os, HF4.out.tape, HF4.out.output, HF4.out.size, HF4.out.block⟩
      rw [show N - cap = 0 by omega] at hst5 hfr5
      have hF : Fed W sb rv fv xs fs sk ys _ (.slice (some ⟨g, 0, none⟩) 0 cap) fv2 gs := Fed.of (rv3 := .slice (some ⟨g, 0, none⟩) 0 cap) HST.out HS2.out HFR2.out HF1.out (by rw [← HTH.out]; exact HE.out) (by rw [← HTH.out]; exact hst5) (hfr5.mono (fun b e => .inl (e.imp id (fun e => by rw [e]; rfl)))) rfl
      obtain ⟨hk5, hI5⟩ := feed_after hF HW.out HBEL.out HBX.out W0.heap.size
      exact ⟨hk5, true, ⟨rfl, rfl⟩, hI5⟩
    · have hTcI : (TH : Int) < (cap : Int) := by omega
      have hTc3 : ¬ cap = TH := fun e => hTc e.symm
      obtain ⟨W4, hrun, hg4, hf4⟩ := copy_run (w := W3) (g := g) (N := N) (cap := cap) (len := (N - TH)) (sLen := (N - TH)) (sCap := (cap - TH)) (ad := ⟨g, TH, none⟩) (cs := CS) HCUR.out.1 hCSl (Nat.min_eq_left (by omega)).symm (fun j v hv => by rw [addr_add]; exact HSRC.out j v hv) (by rw [hCSl, HCUR.out.2.1]; omega) HONE.out
      refine region_round (S := (fun w' => w'.cell? ⟨w.heap.size, 0, none⟩ = some (.pointer (some ⟨sb, 0, none⟩)) ∧ w'.cell? ⟨sb, 0, none⟩ = some (.slice (some ⟨g, 0, none⟩) N cap))) (by kernel_rfl) (by kernel_rfl) (by rintro ⟨a, w, h⟩; exact h) ⟨hcb3, hc3⟩ (fun hHeld => ?_)
      refine wpAnyH_take (i := 0) (v := ?vqc_0) rfl (by kernel_rfl) (by kernel_rfl) (by kernel_rfl) (fun _ _ _ h => h) ?hyqc_0 hHeld ?hqc_0
      case hyqc_0 => refine Or.inl ⟨by rfl, ?_⟩; intro w hSw; obtain ⟨h1, h2⟩ := hSw; go_simp <;> with_reducible rfl
      try simp only [List.getElem_toArray, List.getElem_cons_succ, List.getElem_cons_zero, Act.put, List.setIfInBounds_toArray, List.set_cons_zero, List.set_cons_succ]
      refine wpAnyH_take (i := 1) (v := ?vqc_1) rfl (by kernel_rfl) (by kernel_rfl) (by kernel_rfl) (fun _ _ _ h => h) ?hyqc_1 hHeld ?hqc_1
      case hyqc_1 => refine Or.inl ⟨by rfl, ?_⟩; intro w hSw; obtain ⟨h1, h2⟩ := hSw; go_simp <;> with_reducible rfl
      try simp only [List.getElem_toArray, List.getElem_cons_succ, List.getElem_cons_zero, Act.put, List.setIfInBounds_toArray, List.set_cons_zero, List.set_cons_succ]
      refine wpAnyH_take (i := 2) (v := ?vqc_2) rfl (by kernel_rfl) (by kernel_rfl) (by kernel_rfl) (fun _ _ _ h => h) ?hyqc_2 hHeld ?hqc_2
      case hyqc_2 => refine Or.inl ⟨by rfl, ?_⟩; intro w hSw; obtain ⟨h1, h2⟩ := hSw; go_simp <;> with_reducible rfl
      try simp only [List.getElem_toArray, List.getElem_cons_succ, List.getElem_cons_zero, Act.put, List.setIfInBounds_toArray, List.set_cons_zero, List.set_cons_succ]
      refine wpAnyH_take (i := 3) (v := ?vqc_3) rfl (by kernel_rfl) (by kernel_rfl) (by kernel_rfl) (fun _ _ _ h => h) ?hyqc_3 hHeld ?hqc_3
      case hyqc_3 => refine Or.inl ⟨by rfl, ?_⟩; intro w hSw; obtain ⟨h1, h2⟩ := hSw; go_simp <;> with_reducible rfl
      try simp only [List.getElem_toArray, List.getElem_cons_succ, List.getElem_cons_zero, Act.put, List.setIfInBounds_toArray, List.set_cons_zero, List.set_cons_succ]
      refine wpAnyH_take (i := 4) (v := ?vqc_4) rfl (by kernel_rfl) (by kernel_rfl) (by kernel_rfl) (fun _ _ _ h => h) ?hyqc_4 hHeld ?hqc_4
      case hyqc_4 => refine Or.inl ⟨by rfl, ?_⟩; intro w hSw; obtain ⟨h1, h2⟩ := hSw; go_simp <;> with_reducible rfl
      try simp only [List.getElem_toArray, List.getElem_cons_succ, List.getElem_cons_zero, Act.put, List.setIfInBounds_toArray, List.set_cons_zero, List.set_cons_succ]
      refine wpAnyH_take (i := 5) (v := ?vqc_5) rfl (by kernel_rfl) (by kernel_rfl) (by kernel_rfl) (fun _ _ _ h => h) ?hyqc_5 hHeld ?hqc_5
      case hyqc_5 => refine Or.inl ⟨by rfl, ?_⟩; intro w hSw; obtain ⟨h1, h2⟩ := hSw; go_simp <;> with_reducible rfl
      try simp only [List.getElem_toArray, List.getElem_cons_succ, List.getElem_cons_zero, Act.put, List.setIfInBounds_toArray, List.set_cons_zero, List.set_cons_succ]
      refine wpAnyH_take (i := 6) (v := ?vqc_6) rfl (by kernel_rfl) (by kernel_rfl) (by kernel_rfl) (fun _ _ _ h => h) ?hyqc_6 hHeld ?hqc_6
      case hyqc_6 => refine Or.inl ⟨by rfl, ?_⟩; intro w hSw; obtain ⟨h1, h2⟩ := hSw; go_simp <;> with_reducible rfl
      try simp only [List.getElem_toArray, List.getElem_cons_succ, List.getElem_cons_zero, Act.put, List.setIfInBounds_toArray, List.set_cons_zero, List.set_cons_succ]
      refine wpAnyH_take (i := 7) (v := ?vqc_7) rfl (by kernel_rfl) (by kernel_rfl) (by kernel_rfl) (fun _ _ _ h => h) ?hyqc_7 hHeld ?hqc_7
      case hyqc_7 => refine Or.inl ⟨by rfl, ?_⟩; intro w hSw; obtain ⟨h1, h2⟩ := hSw; go_simp <;> with_reducible rfl
      try simp only [List.getElem_toArray, List.getElem_cons_succ, List.getElem_cons_zero, Act.put, List.setIfInBounds_toArray, List.set_cons_zero, List.set_cons_succ]
      refine wpAnyH_take (i := 8) (v := ?vqc_8) rfl (by kernel_rfl) (by kernel_rfl) (by kernel_rfl) (fun _ _ _ h => h) ?hyqc_8 hHeld ?hqc_8
      case hyqc_8 => refine Or.inl ⟨by rfl, ?_⟩; intro w hSw; obtain ⟨h1, h2⟩ := hSw; go_simp <;> with_reducible rfl
      try simp only [List.getElem_toArray, List.getElem_cons_succ, List.getElem_cons_zero, Act.put, List.setIfInBounds_toArray, List.set_cons_zero, List.set_cons_succ]
      refine wpAnyH_take (i := 9) (v := ?vqc_9) rfl (by kernel_rfl) (by kernel_rfl) (by kernel_rfl) (fun _ _ _ h => h) ?hyqc_9 hHeld ?hqc_9
      case hyqc_9 => refine Or.inl ⟨by rfl, ?_⟩; intro w hSw; obtain ⟨h1, h2⟩ := hSw; go_simp <;> with_reducible rfl
      try simp only [List.getElem_toArray, List.getElem_cons_succ, List.getElem_cons_zero, Act.put, List.setIfInBounds_toArray, List.set_cons_zero, List.set_cons_succ]
      refine wpAnyH_ready (rs := [10]) (by kernel_rfl) (by simp) ?_
      refine AllReadyH.cons rfl (fun K hK => ?_) AllReadyH.nil
      go_simp
      have HG4 : Hid _ := hg4
      have HF4 : Hid (Fr (fun b => b = g) W3 W4) := hf4
      have hgs : g ≠ sb := (HE.out.st.ne_r g rfl).1
      have hgw : w.heap.size ≠ g ∨ True := .inr trivial
      have hgb : g ≠ w.heap.size := fun e => by have h := HBX3.out.s; rw [← e, HCUR.out.1] at h; cases h
      have hc4 : W4.cell? ⟨sb, 0, none⟩ = some (.slice (some ⟨g, 0, none⟩) N cap) := (World.cell?_of_block (HF4.out.block sb HE.out.st.lt (fun e => hgs e.symm))).trans hc3
      have hz4 : W4.frozen? ⟨sb, 0, none⟩ = false := (World.frozen?_of_block (HF4.out.block sb HE.out.st.lt (fun e => hgs e.symm))).trans hf3
      have hcb4 : W4.cell? ⟨w.heap.size, 0, none⟩ = some (.pointer (some ⟨sb, 0, none⟩)) := (World.cell?_of_block (HF4.out.block _ (lt_of_blk HBX3.out.s) (fun e => hgb e.symm))).trans hcb3
      clear hg4 hf4 hgw hrun
      refine hK.out _ _ ⟨hcb4, hc4⟩ (fun hHeld => ?_)
      clear hK K
      try simp only [List.getElem_toArray, List.getElem_cons_succ, List.getElem_cons_zero, Act.put, List.setIfInBounds_toArray, List.set_cons_zero, List.set_cons_succ]
      refine wpAnyH_take (i := 11) (v := ?vqd_11) rfl (by kernel_rfl) (by kernel_rfl) (by kernel_rfl) (fun _ _ _ h => h) ?hyqd_11 hHeld ?hqd_11
      case hyqd_11 => refine Or.inl ⟨by rfl, ?_⟩; intro w hSw; obtain ⟨h1, h2⟩ := hSw; go_simp <;> with_reducible rfl
      try simp only [List.getElem_toArray, List.getElem_cons_succ, List.getElem_cons_zero, Act.put, List.setIfInBounds_toArray, List.set_cons_zero, List.set_cons_succ]
      refine wpAnyH_done (by kernel_rfl) ?_ _
      clear hcb3 hc3 hf3 hHeld
      gi_wp2
      have hlI : (((N - TH) : Nat) : Int) ≤ (cap : Int) := by omega
      refine region_round (S := (fun w' => w'.cell? ⟨w.heap.size, 0, none⟩ = some (.pointer (some ⟨sb, 0, none⟩)))) (by kernel_rfl) (by kernel_rfl) (by rintro ⟨a, w, h⟩; exact h) hcb4 (fun hHeld => ?_)
      refine wpAnyH_take (i := 0) (v := ?vqe_0) rfl (by kernel_rfl) (by kernel_rfl) (by kernel_rfl) (fun _ _ _ h => h) ?hyqe_0 hHeld ?hqe_0
      case hyqe_0 => refine Or.inl ⟨by rfl, ?_⟩; intro w hSw; obtain hh := hSw; go_simp <;> with_reducible rfl
      try simp only [List.getElem_toArray, List.getElem_cons_succ, List.getElem_cons_zero, Act.put, List.setIfInBounds_toArray, List.set_cons_zero, List.set_cons_succ]
      refine wpAnyH_take (i := 1) (v := ?vqe_1) rfl (by kernel_rfl) (by kernel_rfl) (by kernel_rfl) (fun _ _ _ h => h) ?hyqe_1 hHeld ?hqe_1
      case hyqe_1 => refine Or.inl ⟨by rfl, ?_⟩; intro w hSw; obtain hh := hSw; go_simp <;> with_reducible rfl
      try simp only [List.getElem_toArray, List.getElem_cons_succ, List.getElem_cons_zero, Act.put, List.setIfInBounds_toArray, List.set_cons_zero, List.set_cons_succ]
      refine wpAnyH_take (i := 2) (v := ?vqe_2) rfl (by kernel_rfl) (by kernel_rfl) (by kernel_rfl) (fun _ _ _ h => h) ?hyqe_2 hHeld ?hqe_2
      case hyqe_2 => refine Or.inl ⟨by rfl, ?_⟩; intro w hSw; obtain hh := hSw; go_simp <;> with_reducible rfl
      try simp only [List.getElem_toArray, List.getElem_cons_succ, List.getElem_cons_zero, Act.put, List.setIfInBounds_toArray, List.set_cons_zero, List.set_cons_succ]
      refine wpAnyH_take (i := 3) (v := ?vqe_3) rfl (by kernel_rfl) (by kernel_rfl) (by kernel_rfl) (fun _ _ _ h => h) ?hyqe_3 hHeld ?hqe_3
      case hyqe_3 => refine Or.inl ⟨by rfl, ?_⟩; intro w hSw; obtain hh := hSw; go_simp <;> with_reducible rfl
      try simp only [List.getElem_toArray, List.getElem_cons_succ, List.getElem_cons_zero, Act.put, List.setIfInBounds_toArray, List.set_cons_zero, List.set_cons_succ]
      refine wpAnyH_take (i := 5) (v := ?vqe_5) rfl (by kernel_rfl) (by kernel_rfl) (by kernel_rfl) (fun _ _ _ h => h) ?hyqe_5 hHeld ?hqe_5
      case hyqe_5 => refine Or.inl ⟨by rfl, ?_⟩; intro w hSw; obtain hh := hSw; go_simp <;> with_reducible rfl
      try simp only [List.getElem_toArray, List.getElem_cons_succ, List.getElem_cons_zero, Act.put, List.setIfInBounds_toArray, List.set_cons_zero, List.set_cons_succ]
      refine wpAnyH_ready (rs := [4]) (by kernel_rfl) (by simp) ?_
      refine AllReadyH.cons rfl (fun K hK => ?_) AllReadyH.nil
      go_simp
      refine hK.out _ _ hcb4 (fun hHeld => ?_)
      clear hK K
      try simp only [List.getElem_toArray, List.getElem_cons_succ, List.getElem_cons_zero, Act.put, List.setIfInBounds_toArray, List.set_cons_zero, List.set_cons_succ]
      refine wpAnyH_take (i := 6) (v := ?vqf_6) rfl (by kernel_rfl) (by kernel_rfl) (by kernel_rfl) (fun _ _ _ h => h) ?hyqf_6 hHeld ?hqf_6
      case hyqf_6 => refine Or.inl ⟨by rfl, ?_⟩; intro w hSw; obtain hh := hSw; go_simp <;> with_reducible rfl
      try simp only [List.getElem_toArray, List.getElem_cons_succ, List.getElem_cons_zero, Act.put, List.setIfInBounds_toArray, List.set_cons_zero, List.set_cons_succ]
      refine wpAnyH_take (i := 7) (v := ?vqf_7) rfl (by kernel_rfl) (by kernel_rfl) (by kernel_rfl) (fun _ _ _ h => h) ?hyqf_7 hHeld ?hqf_7
      case hyqf_7 => refine Or.inl ⟨by rfl, ?_⟩; intro w hSw; obtain hh := hSw; go_simp <;> with_reducible rfl
      try simp only [List.getElem_toArray, List.getElem_cons_succ, List.getElem_cons_zero, Act.put, List.setIfInBounds_toArray, List.set_cons_zero, List.set_cons_succ]
      refine wpAnyH_take (i := 8) (v := ?vqf_8) rfl (by kernel_rfl) (by kernel_rfl) (by kernel_rfl) (fun _ _ _ h => h) ?hyqf_8 hHeld ?hqf_8
      case hyqf_8 => refine Or.inl ⟨by rfl, ?_⟩; intro w hSw; obtain hh := hSw; go_simp <;> with_reducible rfl
      try simp only [List.getElem_toArray, List.getElem_cons_succ, List.getElem_cons_zero, Act.put, List.setIfInBounds_toArray, List.set_cons_zero, List.set_cons_succ]
      refine wpAnyH_ready (rs := [9]) (by kernel_rfl) (by simp) ?_
      refine AllReadyH.cons rfl (fun K hK => ?_) AllReadyH.nil
      go_simp
      have hcb5 : (W4.drew.setCell ⟨sb, 0, none⟩ (.slice (some ⟨g, 0, none⟩) (N - TH) cap)).cell? ⟨w.heap.size, 0, none⟩ = some (.pointer (some ⟨sb, 0, none⟩)) := (World.cell?_setCell_far _ _ _ _ hnsb').trans hcb4
      refine hK.out _ _ hcb5 (fun hHeld => ?_)
      clear hK K
      try simp only [List.getElem_toArray, List.getElem_cons_succ, List.getElem_cons_zero, Act.put, List.setIfInBounds_toArray, List.set_cons_zero, List.set_cons_succ]
      refine wpAnyH_done (by kernel_rfl) ?_ _
      obtain ⟨hst5, hfr5⟩ := St.moved (w1 := W4.drew) HE.out.st HN.out (by rw [← HN.out]; exact hTN) (cur := cur.toList) (by rw [Array.length_toList]; exact HCUR.out.2.1) hNc hcapm (by rw [← HCS.out]; exact HG4.out) ⟨HF4.out.os, HF4.out.tape, HF4.out.output, HF4.out.size, HF4.out.block⟩
      have hF : Fed W sb rv fv xs fs sk ys _ (.slice (some ⟨g, 0, none⟩) (N - TH) cap) fv2 gs := Fed.of (rv3 := .slice (some ⟨g, 0, none⟩) (N - TH) cap) HST.out HS2.out HFR2.out HF1.out (by rw [← HTH.out]; exact HE.out) (by rw [← HTH.out]; exact hst5) (hfr5.mono (fun b e => .inl (e.imp id (fun e => by rw [e]; rfl)))) rfl
      obtain ⟨hk5, hI5⟩ := feed_after hF HW.out HBEL.out HBX.out W0.heap.size
      exact ⟨hk5, true, ⟨rfl, rfl⟩, hI5⟩
end Go.Proofs.Ytdjibjmhjofedac
