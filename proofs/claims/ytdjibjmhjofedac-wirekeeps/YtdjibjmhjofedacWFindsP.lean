/-
  WireFinds: what the bytes say, by numbers alone; a stream that has been fed all of some bytes.
-/
import Derived.Test.YtdjibjmhjofedacWNothing
import Derived.Test.YtdjibjmhjofedacWFrameP
namespace Go.Proofs.Ytdjibjmhjofedac
open Go.RowKit
set_option linter.unusedVariables false

theorem frame_says {body : List Int} (hb : Byt body) (hn : body.length ≤ 262144) : fcode (frameL body) = 0 ∧ w4 (frameL body) 2 = body.length ∧ ((frameL body).drop 10).take body.length = body := by
  obtain ⟨h1, h2⟩ := unf_frame hb hn
  have hl := frame_len body
  have h0 : fcode (frameL body) = 0 := by
    unfold unfC at h1
    rw [if_neg (by omega)] at h1
    by_cases h : fcode (frameL body) = 0
    · exact h
    · rw [if_pos h] at h1; exact absurd h1 h
  have hw : w4 (frameL body) 2 = body.length := by
    have h3 := (fcode_ok h0).2.1
    unfold unfC at h1
    rw [if_neg (by omega), if_neg (by rw [h0]; decide)] at h1
    by_cases h : 14 + w4 (frameL body) 2 < (frameL body).length
    · rw [if_pos h] at h1; cases h1
    · omega
  refine ⟨h0, hw, ?_⟩
  unfold unfB at h2
  rw [if_pos h1, hw] at h2
  exact h2

theorem dec_frame {body : List Int} (hb : Byt body) (hn : body.length ≤ 262144) (rest : List Int) : dec (frameL body ++ rest) = (body :: (dec rest).1, (dec rest).2.1, (frameL body).length + (dec rest).2.2) := by
  obtain ⟨h0, hw, hd⟩ := frame_says hb hn
  have hl := frame_len body
  have hf : fcode (frameL body ++ rest) = 0 := (fcode_append (by rw [h0]; decide)).trans h0
  rw [dec_body hf, w4_append (by omega), hw, drop_append_of (n := 14 + body.length) (by omega), (show (frameL body).drop (14 + body.length) = [] from List.drop_eq_nil_of_le (by omega)), List.nil_append, drop_append_of (n := 10) (by omega), take_append_of (by rw [List.length_drop]; omega), hd]
  refine Prod.ext rfl (Prod.ext rfl ?_)
  show 14 + body.length + _ = (frameL body).length + _
  omega

theorem dec_nil : dec [] = ([], 0, 0) := dec_stop rfl

theorem St.zero (w : World) : St (w.alloc (.cells #[.slice none 0 0, .slice none 0 0, .int .i64 0] 33)) w.heap.size (.slice none 0 0) (.slice none 0 0) [] [] 0 :=
  ⟨World.alloc_heap_new w _, World.ownsRow_nil _ _ _ _, .inl ⟨rfl, rfl⟩, (fun p hp => nomatch hp), List.pairwise_singleton _ _, (fun z hz => nomatch hz)⟩


/-- Bytes without a 0xC5. -/
def plainL (xs : List Int) : List Int := xs.map fun x => if x = 197 then 196 else x
theorem plain_len (xs : List Int) : (plainL xs).length = xs.length := List.length_map _
theorem plain_no (xs : List Int) : ∀ z ∈ plainL xs, z ≠ 197 := by
  intro z hz
  obtain ⟨x, _, rfl⟩ := List.mem_map.1 hz
  by_cases h : x = 197
  · simp [h]
  · rw [if_neg h]; exact h
theorem plain_byt {xs : List Int} (h : Byt xs) : Byt (plainL xs) := by
  intro z hz
  obtain ⟨x, hx, rfl⟩ := List.mem_map.1 hz
  have := h x hx
  by_cases h : x = 197
  · simp [h]
  · rw [if_neg h]; exact this
theorem plain_step {xs : List Int} {k : Nat} {x : Int} (h : xs[k]? = some x) : plainL (xs.take (k + 1)) = plainL (xs.take k) ++ [if x = 197 then 196 else x] := by
  unfold plainL
  rw [List.take_add_one, h]
  simp

theorem fcode_no {x : Int} {l : List Int} (h : x ≠ 197) : fcode (x :: l) = 22 := by
  have : mkB (x :: l) = false := by
    cases l with
    | nil => exact decide_eq_false h
    | cons y r => exact decide_eq_false (fun k => h k.1)
  unfold fcode
  rw [if_pos this]

theorem dec_plain (rest : List Int) : ∀ ps : List Int, (∀ z ∈ ps, z ≠ 197) → dec (ps ++ rest) = ((dec rest).1, (dec rest).2.1 + ps.length, ps.length + (dec rest).2.2)
  | [], _ => by simp
  | x :: ps, h => by
    have ih := dec_plain rest ps (fun z hz => h z (.tail _ hz))
    rw [List.cons_append, dec_skip (fcode_no (h x (.head _)))]
    show ((dec (ps ++ rest)).1, _, _) = _
    rw [show List.drop 1 (x :: (ps ++ rest)) = ps ++ rest from rfl, ih]
    refine Prod.ext rfl (Prod.ext ?_ ?_)
    · show _ + _ + 1 = _ + (_ + 1); omega
    · show 1 + (_ + _) = _ + 1 + _; omega

/-- Bytes between, and a body, one behind the other. -/
def allS (L : List (List Int × List Int)) : List Int := (L.map fun q => q.1 ++ frameL q.2).flatten
def skS (L : List (List Int × List Int)) : Nat := (L.map fun q => q.1.length).sum
theorem allS_step {L : List (List Int × List Int)} {k : Nat} {q : List Int × List Int} (h : L[k]? = some q) : allS (L.take (k + 1)) = (allS (L.take k) ++ q.1) ++ frameL q.2 := by
  unfold allS
  rw [List.take_add_one, h]
  simp
theorem skS_step {L : List (List Int × List Int)} {k : Nat} {q : List Int × List Int} (h : L[k]? = some q) : skS (L.take (k + 1)) = skS (L.take k) + q.1.length := by
  unfold skS
  rw [List.take_add_one, h]
  simp
theorem dec_all : ∀ L : List (List Int × List Int), (∀ q ∈ L, (∀ z ∈ q.1, z ≠ 197) ∧ Byt q.2 ∧ q.2.length ≤ 262144) → dec (allS L) = (L.map (·.2), skS L, (allS L).length)
  | [], _ => dec_nil
  | q :: L, h => by
    obtain ⟨h1, h2, h3⟩ := h q (.head _)
    have ih := dec_all L (fun p hp => h p (.tail _ hp))
    have e : allS (q :: L) = q.1 ++ (frameL q.2 ++ allS L) := by unfold allS; simp
    rw [e, dec_plain _ q.1 h1, dec_frame h2 h3, ih]
    refine Prod.ext rfl (Prod.ext ?_ ?_)
    · show skS L + q.1.length = skS (q :: L)
      unfold skS
      simp
      omega
    · show q.1.length + ((frameL q.2).length + (allS L).length) = (q.1 ++ (frameL q.2 ++ allS L)).length
      simp

/-- Fed piece by piece. -/
theorem dec_fed (P ys : List Int) : (P ++ ys).drop (dec (P ++ ys)).2.2 = ((P.drop (dec P).2.2) ++ ys).drop (dec (P.drop (dec P).2.2 ++ ys)).2.2 ∧
    (dec (P ++ ys)).1 = (dec P).1 ++ (dec (P.drop (dec P).2.2 ++ ys)).1 ∧ (dec (P ++ ys)).2.1 = (dec P).2.1 + (dec (P.drop (dec P).2.2 ++ ys)).2.1 := by
  have h := dec_append P ys
  have ht := dec_through P
  refine ⟨?_, by rw [h], by rw [h]⟩
  rw [show (dec (P ++ ys)).2.2 = (dec P).2.2 + (dec (P.drop (dec P).2.2 ++ ys)).2.2 by rw [h], ← List.drop_drop, List.drop_append_of_le_length ht]

/-- Nothing of the stream's own. -/
def Out (w : World) (sb : Nat) (rv fv v : Value) : Prop := ∀ k, v.ownBlock = some k → k < w.heap.size ∧ k ≠ sb ∧ rv.ownBlock ≠ some k ∧ fv.ownBlock ≠ some k

/-- The stream has been fed P; T has been taken from it, fs is still in it. -/
structure StP (w : World) (sb : Nat) (rv fv : Value) (P : List Int) (T fs : List (Value × List Int)) : Prop where
  st : St w sb rv fv (P.drop (dec P).2.2) fs (dec P).2.1
  all : T.map (·.2) ++ fs.map (·.2) = (dec P).1
  tk : ∀ p ∈ T, w.ownsRow 0 5 1 p.1 p.2.length (bv p.2) ∧ Out w sb rv fv p.1

theorem Out.fed {w w' : World} {sb sk : Nat} {rv fv rv' fv' v : Value} {xs ys : List Int} {fs gs : List (Value × List Int)} (h : Out w sb rv fv v) (hF : Fed w sb rv fv xs fs sk ys w' rv' fv' gs) : Out w' sb rv' fv' v := fun k hk => by
  obtain ⟨h1, h2, h3, h4⟩ := h k hk
  have hs := hF.fr.size
  refine ⟨by omega, h2, fun e => ?_, fun e => ?_⟩
  · rcases hF.rvf k e with e | e
    · exact h3 e
    · omega
  · rcases hF.fvf k e with e | e
    · exact h4 e
    · omega
theorem Out.not_fed {w : World} {sb : Nat} {rv fv v : Value} (h : Out w sb rv fv v) : ∀ k, v.ownBlock = some k → ¬ (k = sb ∨ rv.ownBlock = some k ∨ fv.ownBlock = some k) := fun k hk e => by
  obtain ⟨_, h2, h3, h4⟩ := h k hk
  rcases e with e | e | e
  · exact h2 e
  · exact h3 e
  · exact h4 e
theorem Out.not_ours {w : World} {sb : Nat} {rv fv v : Value} (h : Out w sb rv fv v) : ∀ k, v.ownBlock = some k → ¬ Ours sb fv k := fun k hk e => by
  obtain ⟨_, h2, _, h4⟩ := h k hk
  rcases e with e | e
  · exact h2 e
  · exact h4 e
theorem Out.took {w w' : World} {sb sk k j : Nat} {rv fv fv' lv v : Value} {xs : List Int} {fs : List (Value × List Int)} {most : Int} (h : Out w sb rv fv v) (hT : Tk w sb rv fv xs fs sk most k j lv fv' w') : Out w' sb rv fv' v := fun b hb => by
  obtain ⟨h1, h2, h3, h4⟩ := h b hb
  have hs := hT.fr.size
  exact ⟨by omega, h2, h3, fun e => h4 (hT.sub b e)⟩

theorem StP.fed {w w' : World} {sb : Nat} {rv fv rv' fv' : Value} {P ys : List Int} {T fs gs : List (Value × List Int)} (h : StP w sb rv fv P T fs) (hF : Fed w sb rv fv (P.drop (dec P).2.2) fs (dec P).2.1 ys w' rv' fv' gs) : StP w' sb rv' fv' (P ++ ys) T (fs ++ gs) := by
  obtain ⟨e1, e2, e3⟩ := dec_fed P ys
  refine ⟨?_, ?_, fun p hp => ⟨owns_fr (h.tk p hp).1 hF.fr (h.tk p hp).2.not_fed, (h.tk p hp).2.fed hF⟩⟩
  · rw [e1, e3]
    exact hF.st
  · rw [e2, ← h.all, List.map_append, hF.bodies, List.append_assoc]

theorem StP.took {w w' : World} {sb k : Nat} {rv fv fv' lv : Value} {P : List Int} {T fs : List (Value × List Int)} {most : Int} (h : StP w sb rv fv P T fs) (hT : Tk w sb rv fv (P.drop (dec P).2.2) fs (dec P).2.1 most k k lv fv' w') : StP w' sb rv fv' P (T ++ fs.take k) (fs.drop k) := by
  refine ⟨hT.st, ?_, fun p hp => ?_⟩
  · rw [List.map_append, List.append_assoc, ← List.map_append, List.take_append_drop]
    exact h.all
  · rcases List.mem_append.1 hp with hp | hp
    · exact ⟨owns_fr (h.tk p hp).1 hT.fr (h.tk p hp).2.not_ours, (h.tk p hp).2.took hT⟩
    · refine ⟨hT.each p hp, fun b hb => ?_⟩
      obtain ⟨h1, h2, h3⟩ := h.st.ne_b p (List.mem_of_mem_take hp) b hb
      have h4 := h.st.lt_b p (List.mem_of_mem_take hp) b hb
      have hs := hT.fr.size
      exact ⟨by omega, h1, h3, fun e => h2 (hT.sub b e)⟩
theorem StP.zero (w : World) : StP (w.alloc (.cells #[.slice none 0 0, .slice none 0 0, .int .i64 0] 33)) w.heap.size (.slice none 0 0) (.slice none 0 0) [] [] [] :=
  ⟨by rw [dec_nil]; exact St.zero w, by rw [dec_nil]; rfl, fun p hp => nomatch hp⟩
theorem StP.code {w : World} {sb : Nat} {rv fv : Value} {P : List Int} {T fs : List (Value × List Int)} (h : StP w sb rv fv P T fs) : fcode (P.drop (dec P).2.2) = 21 := dec_left P
end Go.Proofs.Ytdjibjmhjofedac
