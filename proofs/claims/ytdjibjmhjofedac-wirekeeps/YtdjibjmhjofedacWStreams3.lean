/-
  WireStreams: the last stream.
-/
import Derived.Test.YtdjibjmhjofedacWStreams2
namespace Go.Proofs.Ytdjibjmhjofedac
open Go.RowKit
set_option linter.unusedVariables false

theorem byt_a : Byt [97] := by intro z hz; simp at hz; omega
theorem last_feed (w : World) (fa : Option Addr) (fc : Nat) (hby : Bys w fa (frameL [97])) (hyc : (frameL [97]).length ≤ fc) (hcm : fc ≤ maxLen) :
    Calls Try.prog 10 #[.pointer (some ⟨w.heap.size, 0, none⟩), .slice fa (frameL [97]).length fc] (w.alloc (.cells #[.slice none 0 0, .slice none 0 0, .int .i64 0] 33)) fun e w' => (∃ v, e = .returned v) ∧ ∃ rv fv xs p sk, St w' w.heap.size rv fv xs [p] sk ∧ p.2 = [97] ∧ Below w.heap.size w w' ∧ (∀ b, fv.ownBlock = some b → w.heap.size ≤ b) := by
  have hl : (frameL [97]).length = 15 := frame_len [97]
  have al : Below w.heap.size w (w.alloc (.cells #[.slice none 0 0, .slice none 0 0, .int .i64 0] 33)) := (Below.refl _ _).alloc (Nat.le_refl _) _
  refine (feed_st w.heap.size 0 fc fa _ _ [] (frameL [97]) [] _ (St.zero w) rfl (hby.below al) (frame_byt byt_a (by decide)) (by omega) hyc hcm (by simp; omega) (by omega)).mono ?_
  rintro e w' ⟨hv, rv, fv, gs, hF⟩
  have hd := dec_frame byt_a (by decide) []
  rw [List.append_nil] at hd
  have hb := hF.bodies
  rw [List.nil_append, hd, dec_nil] at hb
  have hst := hF.st
  obtain ⟨p, rfl⟩ : ∃ p, gs = [p] := List.length_eq_one_iff.1 (by have := congrArg List.length hb; simpa using this)
  · refine ⟨hv, rv, fv, _, p, _, hst, by simpa using hb, al.trans (hF.fr.below _ al.size (fun b e => ?_)), fun b e => ?_⟩
    · rcases e with e | e | e
      · rw [e]; exact Nat.le_refl _
      · cases e
      · cases e
    · rcases hF.fvf b e with e | e
      · cases e
      · exact Nat.le_trans al.size e
theorem last_taken {W : World} {sb sk base : Nat} {rv fv : Value} {xs : List Int} {p : Value × List Int} (h : St W sb rv fv xs [p] sk) (hp : p.2 = [97]) (hsb : base ≤ sb) (hfv : ∀ b, fv.ownBlock = some b → base ≤ b) (hbs : base ≤ W.heap.size) :
    Calls Try.prog 11 #[.pointer (some ⟨sb, 0, none⟩), .int .i64 9] W fun e w' => ∃ zg zc ga gc, e = .returned (.tuple #[.slice (some ⟨zg, 0, none⟩) 1 zc, .bool true]) ∧ w'.cell? ⟨zg, 0, none⟩ = some (.slice ga 1 gc) ∧ Bys w' ga [97] ∧ Below base W w' := by
  refine (taken_any sb sk rv fv xs [p] 9 W h (by simp)).mono ?_
  rintro e w' ⟨k, lv, fv', rfl, h1, h2, h3, hT⟩
  obtain rfl : k = 1 := by
    have : [p].length = 1 := rfl
    omega
  have hrow := hT.row
  have heach := hT.each p (by simp)
  rw [hp] at heach
  obtain ⟨ga, gc, hgv, hgb, _⟩ := bys_of_owns heach
  rcases hrow.2 with ⟨_, h⟩ | ⟨zg, zc, cur, hlv, _, hg, _, _, _, ht⟩
  · omega
  · refine ⟨zg, zc, ga, gc, by rw [hlv], ?_, hgb, hT.fr.below _ hbs (fun b e => ?_)⟩
    · rw [cell_blk hg, ← Array.getElem?_toList]
      have h2 : (cur.toList.take (1 * 1))[0]? = some p.1 := by rw [ht]; rfl
      rw [List.getElem?_take, if_pos (by omega)] at h2
      rw [h2, hgv]
      rfl
    · rcases e with e | e
      · rw [e]; exact hsb
      · exact hfv b e
end Go.Proofs.Ytdjibjmhjofedac
