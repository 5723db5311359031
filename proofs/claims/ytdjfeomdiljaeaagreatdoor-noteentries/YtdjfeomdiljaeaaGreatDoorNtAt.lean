/-
  note: where fields lie; what empties them.
-/
import Derived.Test.YtdjfeomdiljaeaaGreatDoorNtNote
namespace Go.Proofs.YtdjfeomdiljaeaaGreatDoor
open Go.RowKit
set_option linter.unusedVariables false
set_option linter.unusedSimpArgs false

/-- A function that says where a field lies. -/
structure AtF (A off : Nat) : Prop where
  inA : ∀ (X : Array Value) (W : World), (callFunc A X).run Tryz.prog W = .ok (.enter A X) W
  says : ∀ (W : World) (b : Nat), Calls Tryz.prog A #[.pointer (some ⟨b, 0, none⟩)] W fun e W' => e = .returned (.pointer (some ⟨b, off, none⟩)) ∧ W' = W
theorem free_ofN {W : World} {b : Nat} {t : TypeId} {cs : Array Value} (h : W.heap[b]? = some (.cells cs t (0, 0))) (o : Nat) : W.frozen? ⟨b, o, none⟩ = false := by
  simp [World.frozen?, h]

theorem at_num : AtF 116 1 := by
  refine ⟨fun X W => ?_, fun W b => ?_⟩
  · exact Tryz.call116 X W
  · go_enter Tryz.func116, Tryz.ntmps116
    go_wp2_with fail
    go_ret
    exact ⟨rfl, rfl⟩
theorem at_se : AtF 117 4 := by
  refine ⟨fun X W => ?_, fun W b => ?_⟩
  · exact Tryz.call117 X W
  · go_enter Tryz.func117, Tryz.ntmps117
    go_wp2_with fail
    go_ret
    exact ⟨rfl, rfl⟩
theorem at_cn : AtF 118 5 := by
  refine ⟨fun X W => ?_, fun W b => ?_⟩
  · exact Tryz.call118 X W
  · go_enter Tryz.func118, Tryz.ntmps118
    go_wp2_with fail
    go_ret
    exact ⟨rfl, rfl⟩
theorem at_rq : AtF 119 6 := by
  refine ⟨fun X W => ?_, fun W b => ?_⟩
  · exact Tryz.call119 X W
  · go_enter Tryz.func119, Tryz.ntmps119
    go_wp2_with fail
    go_ret
    exact ⟨rfl, rfl⟩
theorem at_st : AtF 120 7 := by
  refine ⟨fun X W => ?_, fun W b => ?_⟩
  · exact Tryz.call120 X W
  · go_enter Tryz.func120, Tryz.ntmps120
    go_wp2_with fail
    go_ret
    exact ⟨rfl, rfl⟩
theorem at_of : AtF 121 8 := by
  refine ⟨fun X W => ?_, fun W b => ?_⟩
  · exact Tryz.call121 X W
  · go_enter Tryz.func121, Tryz.ntmps121
    go_wp2_with fail
    go_ret
    exact ⟨rfl, rfl⟩
theorem at_cm : AtF 122 9 := by
  refine ⟨fun X W => ?_, fun W b => ?_⟩
  · exact Tryz.call122 X W
  · go_enter Tryz.func122, Tryz.ntmps122
    go_wp2_with fail
    go_ret
    exact ⟨rfl, rfl⟩
theorem at_cd : AtF 124 10 := by
  refine ⟨fun X W => ?_, fun W b => ?_⟩
  · exact Tryz.call124 X W
  · go_enter Tryz.func124, Tryz.ntmps124
    go_wp2_with fail
    go_ret
    exact ⟨rfl, rfl⟩
theorem at_view : AtF 126 1 := by
  refine ⟨fun X W => ?_, fun W b => ?_⟩
  · exact Tryz.call126 X W
  · go_enter Tryz.func126, Tryz.ntmps126
    go_wp2_with fail
    go_ret
    exact ⟨rfl, rfl⟩
theorem at_rep : AtF 131 13 := by
  refine ⟨fun X W => ?_, fun W b => ?_⟩
  · exact Tryz.call131 X W
  · go_enter Tryz.func131, Tryz.ntmps131
    go_wp2_with fail
    go_ret
    exact ⟨rfl, rfl⟩
theorem at_state : AtF 136 20 := by
  refine ⟨fun X W => ?_, fun W b => ?_⟩
  · exact Tryz.call136 X W
  · go_enter Tryz.func136, Tryz.ntmps136
    go_wp2_with fail
    go_ret
    exact ⟨rfl, rfl⟩
theorem at_ops : AtF 139 11 := by
  refine ⟨fun X W => ?_, fun W b => ?_⟩
  · exact Tryz.call139 X W
  · go_enter Tryz.func139, Tryz.ntmps139
    go_wp2_with fail
    go_ret
    exact ⟨rfl, rfl⟩
theorem at_ents : AtF 142 12 := by
  refine ⟨fun X W => ?_, fun W b => ?_⟩
  · exact Tryz.call142 X W
  · go_enter Tryz.func142, Tryz.ntmps142
    go_wp2_with fail
    go_ret
    exact ⟨rfl, rfl⟩
theorem at_was : AtF 145 17 := by
  refine ⟨fun X W => ?_, fun W b => ?_⟩
  · exact Tryz.call145 X W
  · go_enter Tryz.func145, Tryz.ntmps145
    go_wp2_with fail
    go_ret
    exact ⟨rfl, rfl⟩
theorem at_parts : AtF 150 18 := by
  refine ⟨fun X W => ?_, fun W b => ?_⟩
  · exact Tryz.call150 X W
  · go_enter Tryz.func150, Tryz.ntmps150
    go_wp2_with fail
    go_ret
    exact ⟨rfl, rfl⟩
theorem at_items : AtF 155 19 := by
  refine ⟨fun X W => ?_, fun W b => ?_⟩
  · exact Tryz.call155 X W
  · go_enter Tryz.func155, Tryz.ntmps155
    go_wp2_with fail
    go_ret
    exact ⟨rfl, rfl⟩
set_option maxHeartbeats 1600000 in
theorem emp_int (A off : Nat) (E : NoN → NoN) (hA : AtF A off) (hE : ∀ N : NoN, off < N.cl.toArray.size ∧ N.cl.toArray.setIfInBounds off (.int .i64 0) = (E N).cl.toArray) (W : World) (b s : Nat) (N : NoN) (hN : NB W b N) (hs : W.cell? ⟨s, 0, none⟩ = some (.func (.func A) #[] #[])) :
    Calls Tryz.prog 240 #[.pointer (some ⟨b, 0, none⟩), .pointer (some ⟨s, 0, none⟩)] W fun e W' => e = .returned (.tuple #[]) ∧ NB W' b (E N) ∧ Chg W W' (fun k => k = b) := by
  have hin := hA.inA
  have HS : Hid _ := hA.says W b
  have HN : Hid (NB W b N) := hN
  have HE : Hid _ := hE N
  have hc : ∃ v, W.cell? ⟨b, off, none⟩ = some v := ⟨N.cl.toArray[off]'(hE N).1, hN.cell (by simp)⟩
  obtain ⟨v, hc⟩ := hc
  have hf := free_ofN hN off
  clear hA hE hN
  go_enter Tryz.func240, Tryz.ntmps240
  go_wp2_with (first
    | (refine Calls.mono HS.out ?_; rintro e W1 ⟨rfl, hW1⟩; rw [hW1]; clear hW1)
    | fail)
  refine bodyPost_end (results_none rfl _ _ _) rfl ⟨rfl, ?_, Chg.set _ _ _⟩
  have h1 : (W.setCell ⟨b, off, none⟩ (.int .i64 0)).heap[b]? = some (.cells (E N).cl.toArray 51 (0, 0)) := same_blk HN.out HE.out.2
  exact h1
set_option maxHeartbeats 1600000 in
theorem emp_errno (A off : Nat) (E : NoN → NoN) (hA : AtF A off) (hE : ∀ N : NoN, off < N.cl.toArray.size ∧ N.cl.toArray.setIfInBounds off (.int .i64 0) = (E N).cl.toArray) (W : World) (b s : Nat) (N : NoN) (hN : NB W b N) (hs : W.cell? ⟨s, 0, none⟩ = some (.func (.func A) #[] #[])) :
    Calls Tryz.prog 243 #[.pointer (some ⟨b, 0, none⟩), .pointer (some ⟨s, 0, none⟩)] W fun e W' => e = .returned (.tuple #[]) ∧ NB W' b (E N) ∧ Chg W W' (fun k => k = b) := by
  have hin := hA.inA
  have HS : Hid _ := hA.says W b
  have HN : Hid (NB W b N) := hN
  have HE : Hid _ := hE N
  have hc : ∃ v, W.cell? ⟨b, off, none⟩ = some v := ⟨N.cl.toArray[off]'(hE N).1, hN.cell (by simp)⟩
  obtain ⟨v, hc⟩ := hc
  have hf := free_ofN hN off
  clear hA hE hN
  go_enter Tryz.func243, Tryz.ntmps243
  go_wp2_with (first
    | (refine Calls.mono HS.out ?_; rintro e W1 ⟨rfl, hW1⟩; rw [hW1]; clear hW1)
    | fail)
  refine bodyPost_end (results_none rfl _ _ _) rfl ⟨rfl, ?_, Chg.set _ _ _⟩
  have h1 : (W.setCell ⟨b, off, none⟩ (.int .i64 0)).heap[b]? = some (.cells (E N).cl.toArray 51 (0, 0)) := same_blk HN.out HE.out.2
  exact h1
set_option maxHeartbeats 1600000 in
theorem emp_string (A off : Nat) (E : NoN → NoN) (hA : AtF A off) (hE : ∀ N : NoN, off < N.cl.toArray.size ∧ N.cl.toArray.setIfInBounds off (.string ⟨#[]⟩) = (E N).cl.toArray) (W : World) (b s : Nat) (N : NoN) (hN : NB W b N) (hs : W.cell? ⟨s, 0, none⟩ = some (.func (.func A) #[] #[])) :
    Calls Tryz.prog 191 #[.pointer (some ⟨b, 0, none⟩), .pointer (some ⟨s, 0, none⟩)] W fun e W' => e = .returned (.tuple #[]) ∧ NB W' b (E N) ∧ Chg W W' (fun k => k = b) := by
  have hin := hA.inA
  have HS : Hid _ := hA.says W b
  have HN : Hid (NB W b N) := hN
  have HE : Hid _ := hE N
  have hc : ∃ v, W.cell? ⟨b, off, none⟩ = some v := ⟨N.cl.toArray[off]'(hE N).1, hN.cell (by simp)⟩
  obtain ⟨v, hc⟩ := hc
  have hf := free_ofN hN off
  clear hA hE hN
  go_enter Tryz.func191, Tryz.ntmps191
  go_wp2_with (first
    | (refine Calls.mono HS.out ?_; rintro e W1 ⟨rfl, hW1⟩; rw [hW1]; clear hW1)
    | fail)
  refine bodyPost_end (results_none rfl _ _ _) rfl ⟨rfl, ?_, Chg.set _ _ _⟩
  have h1 : (W.setCell ⟨b, off, none⟩ (.string ⟨#[]⟩)).heap[b]? = some (.cells (E N).cl.toArray 51 (0, 0)) := same_blk HN.out HE.out.2
  exact h1
set_option maxHeartbeats 1600000 in
theorem emp_ops (A off : Nat) (E : NoN → NoN) (hA : AtF A off) (hE : ∀ N : NoN, off < N.cl.toArray.size ∧ N.cl.toArray.setIfInBounds off (.slice none 0 0) = (E N).cl.toArray) (W : World) (b s : Nat) (N : NoN) (hN : NB W b N) (hs : W.cell? ⟨s, 0, none⟩ = some (.func (.func A) #[] #[])) :
    Calls Tryz.prog 251 #[.pointer (some ⟨b, 0, none⟩), .pointer (some ⟨s, 0, none⟩)] W fun e W' => e = .returned (.tuple #[]) ∧ NB W' b (E N) ∧ Chg W W' (fun k => k = b) := by
  have hin := hA.inA
  have HS : Hid _ := hA.says W b
  have HN : Hid (NB W b N) := hN
  have HE : Hid _ := hE N
  have hc : ∃ v, W.cell? ⟨b, off, none⟩ = some v := ⟨N.cl.toArray[off]'(hE N).1, hN.cell (by simp)⟩
  obtain ⟨v, hc⟩ := hc
  have hf := free_ofN hN off
  clear hA hE hN
  go_enter Tryz.func251, Tryz.ntmps251
  go_wp2_with (first
    | (refine Calls.mono HS.out ?_; rintro e W1 ⟨rfl, hW1⟩; rw [hW1]; clear hW1)
    | fail)
  refine bodyPost_end (results_none rfl _ _ _) rfl ⟨rfl, ?_, Chg.set _ _ _⟩
  have h1 : (W.setCell ⟨b, off, none⟩ (.slice none 0 0)).heap[b]? = some (.cells (E N).cl.toArray 51 (0, 0)) := same_blk HN.out HE.out.2
  exact h1
set_option maxHeartbeats 1600000 in
theorem emp_ents (A off : Nat) (E : NoN → NoN) (hA : AtF A off) (hE : ∀ N : NoN, off < N.cl.toArray.size ∧ N.cl.toArray.setIfInBounds off (.slice none 0 0) = (E N).cl.toArray) (W : World) (b s : Nat) (N : NoN) (hN : NB W b N) (hs : W.cell? ⟨s, 0, none⟩ = some (.func (.func A) #[] #[])) :
    Calls Tryz.prog 254 #[.pointer (some ⟨b, 0, none⟩), .pointer (some ⟨s, 0, none⟩)] W fun e W' => e = .returned (.tuple #[]) ∧ NB W' b (E N) ∧ Chg W W' (fun k => k = b) := by
  have hin := hA.inA
  have HS : Hid _ := hA.says W b
  have HN : Hid (NB W b N) := hN
  have HE : Hid _ := hE N
  have hc : ∃ v, W.cell? ⟨b, off, none⟩ = some v := ⟨N.cl.toArray[off]'(hE N).1, hN.cell (by simp)⟩
  obtain ⟨v, hc⟩ := hc
  have hf := free_ofN hN off
  clear hA hE hN
  go_enter Tryz.func254, Tryz.ntmps254
  go_wp2_with (first
    | (refine Calls.mono HS.out ?_; rintro e W1 ⟨rfl, hW1⟩; rw [hW1]; clear hW1)
    | fail)
  refine bodyPost_end (results_none rfl _ _ _) rfl ⟨rfl, ?_, Chg.set _ _ _⟩
  have h1 : (W.setCell ⟨b, off, none⟩ (.slice none 0 0)).heap[b]? = some (.cells (E N).cl.toArray 51 (0, 0)) := same_blk HN.out HE.out.2
  exact h1
set_option maxHeartbeats 1600000 in
theorem emp_was (A off : Nat) (E : NoN → NoN) (hA : AtF A off) (hE : ∀ N : NoN, off < N.cl.toArray.size ∧ N.cl.toArray.setIfInBounds off (.slice none 0 0) = (E N).cl.toArray) (W : World) (b s : Nat) (N : NoN) (hN : NB W b N) (hs : W.cell? ⟨s, 0, none⟩ = some (.func (.func A) #[] #[])) :
    Calls Tryz.prog 257 #[.pointer (some ⟨b, 0, none⟩), .pointer (some ⟨s, 0, none⟩)] W fun e W' => e = .returned (.tuple #[]) ∧ NB W' b (E N) ∧ Chg W W' (fun k => k = b) := by
  have hin := hA.inA
  have HS : Hid _ := hA.says W b
  have HN : Hid (NB W b N) := hN
  have HE : Hid _ := hE N
  have hc : ∃ v, W.cell? ⟨b, off, none⟩ = some v := ⟨N.cl.toArray[off]'(hE N).1, hN.cell (by simp)⟩
  obtain ⟨v, hc⟩ := hc
  have hf := free_ofN hN off
  clear hA hE hN
  go_enter Tryz.func257, Tryz.ntmps257
  go_wp2_with (first
    | (refine Calls.mono HS.out ?_; rintro e W1 ⟨rfl, hW1⟩; rw [hW1]; clear hW1)
    | fail)
  refine bodyPost_end (results_none rfl _ _ _) rfl ⟨rfl, ?_, Chg.set _ _ _⟩
  have h1 : (W.setCell ⟨b, off, none⟩ (.slice none 0 0)).heap[b]? = some (.cells (E N).cl.toArray 51 (0, 0)) := same_blk HN.out HE.out.2
  exact h1
set_option maxHeartbeats 1600000 in
theorem emp_parts (A off : Nat) (E : NoN → NoN) (hA : AtF A off) (hE : ∀ N : NoN, off < N.cl.toArray.size ∧ N.cl.toArray.setIfInBounds off (.slice none 0 0) = (E N).cl.toArray) (W : World) (b s : Nat) (N : NoN) (hN : NB W b N) (hs : W.cell? ⟨s, 0, none⟩ = some (.func (.func A) #[] #[])) :
    Calls Tryz.prog 261 #[.pointer (some ⟨b, 0, none⟩), .pointer (some ⟨s, 0, none⟩)] W fun e W' => e = .returned (.tuple #[]) ∧ NB W' b (E N) ∧ Chg W W' (fun k => k = b) := by
  have hin := hA.inA
  have HS : Hid _ := hA.says W b
  have HN : Hid (NB W b N) := hN
  have HE : Hid _ := hE N
  have hc : ∃ v, W.cell? ⟨b, off, none⟩ = some v := ⟨N.cl.toArray[off]'(hE N).1, hN.cell (by simp)⟩
  obtain ⟨v, hc⟩ := hc
  have hf := free_ofN hN off
  clear hA hE hN
  go_enter Tryz.func261, Tryz.ntmps261
  go_wp2_with (first
    | (refine Calls.mono HS.out ?_; rintro e W1 ⟨rfl, hW1⟩; rw [hW1]; clear hW1)
    | fail)
  refine bodyPost_end (results_none rfl _ _ _) rfl ⟨rfl, ?_, Chg.set _ _ _⟩
  have h1 : (W.setCell ⟨b, off, none⟩ (.slice none 0 0)).heap[b]? = some (.cells (E N).cl.toArray 51 (0, 0)) := same_blk HN.out HE.out.2
  exact h1
set_option maxHeartbeats 1600000 in
theorem emp_items (A off : Nat) (E : NoN → NoN) (hA : AtF A off) (hE : ∀ N : NoN, off < N.cl.toArray.size ∧ N.cl.toArray.setIfInBounds off (.slice none 0 0) = (E N).cl.toArray) (W : World) (b s : Nat) (N : NoN) (hN : NB W b N) (hs : W.cell? ⟨s, 0, none⟩ = some (.func (.func A) #[] #[])) :
    Calls Tryz.prog 270 #[.pointer (some ⟨b, 0, none⟩), .pointer (some ⟨s, 0, none⟩)] W fun e W' => e = .returned (.tuple #[]) ∧ NB W' b (E N) ∧ Chg W W' (fun k => k = b) := by
  have hin := hA.inA
  have HS : Hid _ := hA.says W b
  have HN : Hid (NB W b N) := hN
  have HE : Hid _ := hE N
  have hc : ∃ v, W.cell? ⟨b, off, none⟩ = some v := ⟨N.cl.toArray[off]'(hE N).1, hN.cell (by simp)⟩
  obtain ⟨v, hc⟩ := hc
  have hf := free_ofN hN off
  clear hA hE hN
  go_enter Tryz.func270, Tryz.ntmps270
  go_wp2_with (first
    | (refine Calls.mono HS.out ?_; rintro e W1 ⟨rfl, hW1⟩; rw [hW1]; clear hW1)
    | fail)
  refine bodyPost_end (results_none rfl _ _ _) rfl ⟨rfl, ?_, Chg.set _ _ _⟩
  have h1 : (W.setCell ⟨b, off, none⟩ (.slice none 0 0)).heap[b]? = some (.cells (E N).cl.toArray 51 (0, 0)) := same_blk HN.out HE.out.2
  exact h1
end Go.Proofs.YtdjfeomdiljaeaaGreatDoor
