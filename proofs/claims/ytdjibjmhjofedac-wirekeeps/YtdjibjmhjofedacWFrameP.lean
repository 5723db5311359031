/-
  A frame's own parts.
-/
import Derived.Test.YtdjibjmhjofedacWUnframe
namespace Go.Proofs.Ytdjibjmhjofedac

theorem w4_mid (p r : List Int) {v : Nat} (h : v < 4294967296) {j : Nat} (hj : j = p.length) : w4 (p ++ (fourL v ++ r)) j = v := by
  subst hj
  unfold w4
  rw [List.drop_left, List.take_append_of_le_length (by rw [four_len]; omega), ← four_len v, List.take_length, be_four h]

theorem frame_parts (body : List Int) : frameL body = ([197, 58] ++ fourL body.length) ++ (fourL (crc ([197, 58] ++ fourL body.length)) ++ (body ++ fourL (crc (headL body.length ++ body)))) := by
  unfold frameL headL
  simp only [List.append_assoc]

theorem frame_head {body : List Int} (hn : body.length < 4294967296) :
    mkB (frameL body) = true ∧ w4 (frameL body) 2 = body.length ∧ (frameL body).take 6 = [197, 58] ++ fourL body.length ∧ crc ((frameL body).take 6) = w4 (frameL body) 6 := by
  have hy : Byt ([197, 58] ++ fourL body.length) := mark_byt.append (four_byt hn)
  have ht : (frameL body).take 6 = [197, 58] ++ fourL body.length := by
    rw [frame_parts, List.take_append_of_le_length (by rw [List.length_append, four_len]; simp), List.take_of_length_le (by rw [List.length_append, four_len]; simp)]
  refine ⟨?_, ?_, ht, ?_⟩
  · rw [frame_parts]; rfl
  · rw [frame_parts, List.append_assoc]
    exact w4_mid [197, 58] _ hn rfl
  · rw [ht]
    conv => rhs; rw [frame_parts]
    rw [w4_mid _ _ (crc_lt hy) (by rw [List.length_append, four_len]; rfl)]

theorem frame_tail {body : List Int} (hb : Byt body) (hn : body.length < 4294967296) :
    (frameL body).take (10 + body.length) = headL body.length ++ body ∧ crc ((frameL body).take (10 + body.length)) = w4 (frameL body) (10 + body.length) ∧ ((frameL body).drop 10).take body.length = body := by
  have hy : Byt (headL body.length ++ body) := (head_byt hn).append hb
  have hl : (headL body.length ++ body).length = 10 + body.length := by rw [List.length_append, head_len]
  have e : frameL body = (headL body.length ++ body) ++ (fourL (crc (headL body.length ++ body)) ++ []) := by rw [List.append_nil]; rfl
  have ht : (frameL body).take (10 + body.length) = headL body.length ++ body := by
    rw [e, ← hl, List.take_left]
  refine ⟨ht, ?_, ?_⟩
  · rw [ht]
    conv => rhs; rw [e]
    rw [w4_mid _ _ (crc_lt hy) hl.symm]
  · unfold frameL
    rw [List.append_assoc, ← head_len body.length, List.drop_left, List.take_left]

/-- A frame is read. -/
theorem unf_frame {body : List Int} (hb : Byt body) (hn : body.length ≤ 262144) : unfC (frameL body) = 0 ∧ unfB (frameL body) = body := by
  have h1 := frame_head (body := body) (by omega)
  have h2 := frame_tail hb (by omega)
  have hl := frame_len body
  have hf : fcode (frameL body) = 0 := by
    unfold fcode
    rw [if_neg (by rw [h1.1]; simp), if_neg (by omega), if_neg (by rw [h1.2.2.2]; simp), h1.2.1, if_neg (by omega), if_neg (by omega), if_neg (by rw [h2.2.1]; simp)]
  have hc : unfC (frameL body) = 0 := by
    unfold unfC
    rw [if_neg (by omega), if_neg (by simpa using hf), h1.2.1, if_neg (by omega)]
  refine ⟨hc, ?_⟩
  unfold unfB
  rw [if_pos hc, h1.2.1]
  exact h2.2.2
end Go.Proofs.Ytdjibjmhjofedac
