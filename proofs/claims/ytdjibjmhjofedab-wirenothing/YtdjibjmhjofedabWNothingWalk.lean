/-
  WireNothing: the walk.
-/
import Derived.Test.YtdjibjmhjofedabWNothing
import Derived.Test.YtdjibjmhjofedabWFrameP
namespace Go.Proofs.Ytdjibjmhjofedab
open Go.RowKit
set_option linter.unusedVariables false

theorem frame_says {body : List Int} (hb : Byt body) (hn : body.length ≤ 262144) : fcode (frameL body) = 0 ∧ w4 (frameL body) 2 = body.length ∧ ((frameL body).drop 10).take body.length = body := by
  obtain ⟨h1, h2⟩ := unf_frame hb hn
  have hl := frame_len body
  have h0 : fcode (frameL body) = 0 := by
    unfold unfC at h1
    rw [if_neg (by omega)] at h1
    by_cases h : fcode (frameL body) = 0
    · exact h
    · rw [if_pos h] at h1; exact absurd h1 h
  have hw : w4 (frameL body) 2 = body.length := by
    have h3 := (fcode_ok h0).2.1
    unfold unfC at h1
    rw [if_neg (by omega), if_neg (by rw [h0]; decide)] at h1
    by_cases h : 14 + w4 (frameL body) 2 < (frameL body).length
    · rw [if_pos h] at h1; cases h1
    · omega
  refine ⟨h0, hw, ?_⟩
  unfold unfB at h2
  rw [if_pos h1, hw] at h2
  exact h2

theorem dec_frame {body : List Int} (hb : Byt body) (hn : body.length ≤ 262144) (rest : List Int) : dec (frameL body ++ rest) = (body :: (dec rest).1, (dec rest).2.1, (frameL body).length + (dec rest).2.2) := by
  obtain ⟨h0, hw, hd⟩ := frame_says hb hn
  have hl := frame_len body
  have hf : fcode (frameL body ++ rest) = 0 := (fcode_append (by rw [h0]; decide)).trans h0
  rw [dec_body hf, w4_append (by omega), hw, drop_append_of (n := 14 + body.length) (by omega), (show (frameL body).drop (14 + body.length) = [] from List.drop_eq_nil_of_le (by omega)), List.nil_append, drop_append_of (n := 10) (by omega), take_append_of (by rw [List.length_drop]; omega), hd]
  refine Prod.ext rfl (Prod.ext rfl ?_)
  show 14 + body.length + _ = (frameL body).length + _
  omega

theorem dec_nil : dec [] = ([], 0, 0) := dec_stop rfl

theorem St.zero (w : World) : St (w.alloc (.cells #[.slice none 0 0, .slice none 0 0, .int .i64 0] 52)) w.heap.size (.slice none 0 0) (.slice none 0 0) [] [] 0 :=
  ⟨World.alloc_heap_new w _, World.ownsRow_nil _ _ _ _, .inl ⟨rfl, rfl⟩, (fun p hp => nomatch hp), List.pairwise_singleton _ _, (fun z hz => nomatch hz)⟩

set_option maxRecDepth 100000 in
set_option maxHeartbeats 12800000 in
theorem nothing_walk (w : World) : Calls Try.prog 7 #[] w fun e w' => e = .returned (.bool true) ∧ Below w.heap.size w w' := by
  go_enter Try.func7, Try.ntmps7
  go_wp2_with fail
  refine (awake_any w).mono ?_
  rintro e w1 ⟨rfl, hb1⟩
  have HB1 : Hid (Below w.heap.size w w1) := hb1
  clear hb1
  go_wp2_with fail
  refine (frame_none none 0 w1).mono ?_
  rintro e w2 ⟨fa, fc, rfl, hrow, hb2⟩
  have HROW : Hid _ := hrow
  have HB2 : Hid (Below w.heap.size w w2) := trans2 HB1.out hb2
  clear hrow hb2
  rw [frame_len]
  go_wp2_with fail
  refine (feed_nil _ w2).mono ?_
  rintro e w3 ⟨⟨v, rfl⟩, hb3⟩
  have HB3 : Hid (Below w.heap.size w w3) := trans2 HB2.out hb3
  have HF3 : Hid (w3.ownsRow w1.heap.size 5 1 (.slice fa (frameL []).length fc) (frameL []).length (bv (frameL []))) := owns_fr HROW.out (Fr.of_below hb3 (fun _ => False)) (fun _ _ h => h)
  clear hb3
  go_wp2_with fail
  refine (taken_nil 9 w3 (by decide)).mono ?_
  rintro e w4 ⟨rfl, hb4⟩
  have HB4 : Hid (Below w.heap.size w w4) := trans2 HB3.out hb4
  have HF4 : Hid (w4.ownsRow w1.heap.size 5 1 (.slice fa (frameL []).length fc) (frameL []).length (bv (frameL []))) := owns_fr HF3.out (Fr.of_below hb4 (fun _ => False)) (fun _ _ h => h)
  clear hb4
  go_wp2_with fail
  have hz : w4.heap.size < (w4.alloc (.cells #[.slice none 0 0, .slice none 0 0, .int .i64 0] 52)).heap.size := by rw [World.size_alloc]; omega
  have HZB : Hid (w.heap.size ≤ w4.heap.size) := HB4.out.size
  have HB5 : Hid (Below w.heap.size w (w4.alloc (.cells #[.slice none 0 0, .slice none 0 0, .int .i64 0] 52))) := HB4.out.alloc HZB.out _
  have HF5 : Hid _ := owns_fr HF4.out (Fr.of_below ((Below.refl _ w4).alloc (Nat.le_refl _) (.cells #[.slice none 0 0, .slice none 0 0, .int .i64 0] 52)) (fun _ => False)) (fun _ _ h => h)
  have HF5b : Hid (∀ k, (Value.slice fa (frameL []).length fc).ownBlock = some k → k < w4.heap.size) := fun k hk => (owns_kind HF4.out k hk).1
  refine (taken_st w4.heap.size 0 (.slice none 0 0) (.slice none 0 0) [] [] 9 _ (St.zero w4) (by decide) (by simp)).mono ?_
  rintro e w6 ⟨k, lv, fv6, rfl, hk, hk9, hkl, hT6⟩
  obtain rfl : k = 0 := by simpa using hk
  have hfv6 : fv6.ownBlock = none := by
    cases h : fv6.ownBlock with
    | none => rfl
    | some b => have := hT6.sub b h; cases this
  obtain ⟨la, lc, rfl⟩ : ∃ la lc, lv = .slice la 0 lc := by
    rcases hT6.row.2 with ⟨h, _⟩ | ⟨g, cap, cur, h, _⟩
    · exact ⟨_, _, h⟩
    · exact ⟨_, _, h⟩
  have HS6 : Hid (St w6 w4.heap.size (.slice none 0 0) fv6 [] [] 0) := hT6.st
  have HB6 : Hid (Below w.heap.size w w6) := HB5.out.trans (hT6.fr.below _ HB5.out.size (fun k e => by
    rcases e with e | e
    · rw [e]; exact HZB.out
    · cases e))
  have HF6 : Hid _ := owns_fr HF5.out hT6.fr (fun k hk e => by
    rcases e with e | e
    · have := HF5b.out k hk; omega
    · cases e)
  clear hT6 hk hk9 hkl
  go_wp2_with fail
  refine (feed_st w4.heap.size 0 0 none (.slice none 0 0) fv6 [] [] [] w6 HS6.out rfl (.inl rfl) (fun z hz => nomatch hz) (by simp) (by simp) (by unfold maxLen; omega) (by simp) (by omega)).mono ?_
  rintro e w7 ⟨⟨v7, rfl⟩, rv7, fv7, gs7, hF7⟩
  have hst7 := hF7.st
  have hbo7 := hF7.bodies
  rw [List.append_nil, dec_nil] at hst7 hbo7
  obtain rfl : gs7 = [] := List.map_eq_nil_iff.1 hbo7
  have HS7 : Hid (St w7 w4.heap.size rv7 fv7 [] [] 0) := hst7
  have own7 : ∀ k, (k = w4.heap.size ∨ (Value.slice none 0 0).ownBlock = some k ∨ fv6.ownBlock = some k) → k = w4.heap.size := fun k e => by
    rcases e with e | e | e
    · exact e
    · cases e
    · rw [hfv6] at e; cases e
  have HB7 : Hid (Below w.heap.size w w7) := HB6.out.trans (hF7.fr.below _ HB6.out.size (fun k e => by rw [own7 k e]; exact HZB.out))
  have HF7 : Hid _ := owns_fr HF6.out hF7.fr (fun k hk e => by have := HF5b.out k hk; have := own7 k e; omega)
  have HV7 : Hid ((∀ k, rv7.ownBlock = some k → w6.heap.size ≤ k) ∧ (∀ k, fv7.ownBlock = some k → w6.heap.size ≤ k)) := ⟨fun k hk => (hF7.rvf k hk).elim (fun e => by cases e) id, fun k hk => (hF7.fvf k hk).elim (fun e => by rw [hfv6] at e; cases e) id⟩
  have HW6 : Hid (w4.heap.size < w6.heap.size) := HS6.out.lt
  clear hF7 hst7 hbo7 own7
  go_wp2_with fail
  obtain ⟨ba, bc, hbv, hby, hbn, -, hble, hbm⟩ := bys_of_owns HF7.out
  obtain ⟨rfl, -, rfl⟩ := Value.slice.inj hbv
  have hfeed := feed_st w4.heap.size 0 fc fa rv7 fv7 [] (frameL []) [] w7 HS7.out rfl hby (frame_byt (fun z hz => nomatch hz) (by simp)) (by rw [frame_len]; simp) hble hbm (by rw [frame_len]; simp) (by omega)
  rw [show (frameL []).length = 14 from frame_len []] at hfeed
  refine hfeed.mono ?_
  clear hfeed hbv hby hbn hble hbm
  rintro e w8 ⟨⟨v8, rfl⟩, rv8, fv8, gs8, hF8⟩
  have hdec : dec ([] ++ frameL []) = ([[]], 0, (frameL []).length + 0) := by
    have := dec_frame (body := []) (fun z hz => nomatch hz) (by simp) []
    rw [List.append_nil, dec_nil] at this
    exact this
  have hst8 := hF8.st
  have hbo8 := hF8.bodies
  rw [hdec] at hst8 hbo8
  obtain ⟨v9, ys9, rfl⟩ : ∃ v ys, gs8 = [(v, ys)] := by
    match gs8, hbo8 with
    | [(v, ys)], _ => exact ⟨v, ys, rfl⟩
  obtain rfl : ys9 = [] := by simpa using hbo8
  have HS8 : Hid (St w8 w4.heap.size rv8 fv8 [] [(v9, [])] 0) := by
    have := hst8
    rw [show (([] : List Int) ++ frameL []).drop ((frameL []).length + 0) = [] by simp] at this
    exact this
  have own8 : ∀ k, (k = w4.heap.size ∨ rv7.ownBlock = some k ∨ fv7.ownBlock = some k) → w4.heap.size ≤ k := fun k e => by
    have h6 := HW6.out
    rcases e with e | e | e
    · omega
    · have := HV7.out.1 k e; omega
    · have := HV7.out.2 k e; omega
  have HB8 : Hid (Below w.heap.size w w8) := HB7.out.trans (hF8.fr.below _ HB7.out.size (fun k e => Nat.le_trans HZB.out (own8 k e)))
  have HV8 : Hid (∀ k, fv8.ownBlock = some k → w4.heap.size ≤ k) := fun k hk => by
    have h6 := HW6.out
    have h7 := HS7.out.lt
    rcases hF8.fvf k hk with e | e
    · have := HV7.out.2 k e; omega
    · omega
  clear hF8 hst8 hbo8 own8 hdec
  go_wp2_with fail
  refine (taken_st w4.heap.size 0 rv8 fv8 [] [(v9, [])] 9 w8 HS8.out (by decide) (by simp)).mono ?_
  rintro e w9 ⟨k, lv9, fv9, rfl, hk, hk9, hkl, hT9⟩
  obtain rfl : k = 1 := hkl (by simp at hk; omega)
  have HB9 : Hid (Below w.heap.size w w9) := HB8.out.trans (hT9.fr.below _ HB8.out.size (fun k e => by
    rcases e with e | e
    · rw [e]; exact HZB.out
    · exact Nat.le_trans HZB.out (HV8.out k e)))
  obtain ⟨g9, cap9, rfl, hcell9⟩ : ∃ g cap, lv9 = .slice (some ⟨g, 0, none⟩) 1 cap ∧ w9.cell? ⟨g, 0, none⟩ = some v9 := by
    have h := hT9.row
    rcases h.2 with ⟨_, h⟩ | ⟨g, cap, cur, rfl, _, hg, _, _, _, ht⟩
    · cases h
    · refine ⟨g, cap, rfl, ?_⟩
      rw [cell_blk hg, ← Array.getElem?_toList]
      have : (cur.toList.take (1 * 1))[0]? = some v9 := by rw [ht]; rfl
      rwa [List.getElem?_take, if_pos (by decide)] at this
  obtain ⟨va, vc, rfl⟩ : ∃ va vc, v9 = .slice va 0 vc := by
    rcases (hT9.each (v9, []) (by simp)).2 with ⟨h, _⟩ | ⟨g, cap, cur, h, _⟩
    · exact ⟨_, _, h⟩
    · exact ⟨_, _, h⟩
  have hsk9 : w9.cell? ⟨w4.heap.size, 2, none⟩ = some (.int .i64 0) := hT9.st.c2
  clear hT9 hk hk9 hkl
  go_wp2_with fail
  refine (skipped_nil w9).mono ?_
  rintro e w10 ⟨rfl, rfl⟩
  go_wp2_with fail
  refine (skipped_st _ 0 w10 hsk9).mono ?_
  rintro e w11 ⟨rfl, rfl⟩
  go_wp2_with fail
  go_ret
  exact ⟨rfl, HB9.out⟩
end Go.Proofs.Ytdjibjmhjofedab
