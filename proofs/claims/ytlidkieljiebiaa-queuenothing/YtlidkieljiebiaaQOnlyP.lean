/-
  heraldlaw10: plays, any step.
-/
import Derived.Test.YtlidkieljiebiaaQPlayQ
import Derived.Test.YtlidkieljiebiaaQPlayP
import Derived.Test.YtlidkieljiebiaaQPlayA
import Derived.Test.YtlidkieljiebiaaQPlayB
import Derived.Test.YtlidkieljiebiaaQPlayC
import Derived.Test.YtlidkieljiebiaaQPlayE
import Derived.Test.YtlidkieljiebiaaQKnown
import Derived.Deep.RegionHeld3
namespace Go.Proofs.Ytlidkieljiebiaa
open Go.RowKit
set_option linter.unusedVariables false
set_option linter.unusedSimpArgs false

theorem plays_any (B D : Nat) (Q : QuT) (x : StT) (v tv pv sv nv : Value) (L M : List Value) (u1 u2 : Value) (w : World) (S P : Nat → Prop) (h : Sit w S B D Q v tv pv sv nv L M) (h1 : TgsAt w P u1 x.cs) (h2 : PasAt w P u2 x.ps) (hs : x.Small) (ht : x.Tight) (hP : ∀ j, P j → ¬ DeskK D tv pv sv nv L M j ∧ j ≠ B) :
    Calls Try.prog 25 #[.pointer (some ⟨B, 0, none⟩), rqV Q.room Q.last v, .agg #[.int .i64 x.kind, .int .i64 x.on, .int .i64 x.st, u1, u2], .pointer (some ⟨D, 0, none⟩)] w fun e w' => ∃ last l, PlE w S B D (DeskK D tv pv sv nv L M) Q.room last l e w' := by
  obtain ⟨kind, on, st, cs, ps⟩ := x
  by_cases k1 : kind = 1
  · exact (plays_put B D Q kind on st cs ps v tv pv sv nv L M u1 u2 w S P h h1 h2 hs ht hP k1).mono fun e w' hh => ⟨_, _, hh⟩
  by_cases k2 : kind = 2
  · exact (plays_coll B D Q kind on st cs ps v tv pv sv nv L M u1 u2 w S P h h1 h2 hs ht hP k2).mono fun e w' hh => ⟨_, _, hh⟩
  by_cases k3 : kind = 3
  · exact (plays_next B D Q kind on st cs ps v tv pv sv nv L M u1 u2 w S P h h1 h2 hs ht hP k3).mono fun e w' hh => ⟨_, _, hh⟩
  by_cases k4 : kind = 4
  · exact (plays_took B D Q kind on st cs ps v tv pv sv nv L M u1 u2 w S P h h1 h2 hs ht hP k4).mono fun e w' hh => ⟨_, _, hh⟩
  by_cases k5 : kind = 5
  · exact (plays_tell B D Q kind on st cs ps v tv pv sv nv L M u1 u2 w S P h h1 h2 hs ht hP k5).mono fun e w' hh => ⟨_, _, hh⟩
  exact (plays_else B D Q kind on st cs ps v tv pv sv nv L M u1 u2 w S P h h1 h2 hs ht hP k1 k2 k3 k4 k5).mono fun e w' hh => ⟨_, _, hh⟩
/-- Between two steps of only. -/
structure OnI (w0 w : World) (b B D room last : Nat) (S : Nat → Prop) (v tv pv sv nv : Value) (L M : List Value) (f : Nat) (l : List ItT) : Prop where
  sit : Sit w S B D ⟨room, f, last, l⟩ v tv pv sv nv L M
  box : w.heap[b]? = some (.cells #[.int .i64 room, .int .i64 last, v] 67 (0, 0))
  nb : ¬ S b ∧ b ≠ B ∧ ¬ DeskK D tv pv sv nv L M b
  below : Below w0.heap.size w0 w
  lowB : w0.heap.size ≤ B
  lowK : ∀ j, DeskK D tv pv sv nv L M j → w0.heap.size ≤ j
  lowb : w0.heap.size ≤ b
theorem below_chgs {w0 w w' : World} {T : Nat → Prop} (h : Below w0.heap.size w0 w) (hc : Chg w w' T) (hT : ∀ j, T j → w0.heap.size ≤ j) : Below w0.heap.size w0 w' :=
  ⟨hc.os.trans h.os, hc.tape.trans h.tape, hc.output.trans h.output, Nat.le_trans h.size hc.size, fun j hj => by rw [hc.block j (Nat.lt_of_lt_of_le hj h.size) (fun e => by have := hT j e; omega)]; exact h.block j hj⟩
theorem OnI.step {w0 w w1 w2 : World} {b B D room last : Nat} {S : Nat → Prop} {v tv pv sv nv : Value} {L M : List Value} {f : Nat} {l : List ItT} (h : OnI w0 w b B D room last S v tv pv sv nv L M f l)
    {S' : Nat → Prop} {f' last' : Nat} {l' : List ItT} {v' tv' pv' sv' nv' : Value} {L' M' : List Value} (hs : Sit w1 S' B D ⟨room, f', last', l'⟩ v' tv' pv' sv' nv' L' M') (hS : ∀ j, S' j → S j) (hc : Chg w w1 (fun j => j = B ∨ DeskK D tv pv sv nv L M j)) (hk : ∀ j, DeskK D tv' pv' sv' nv' L' M' j → DeskK D tv pv sv nv L M j ∨ w.heap.size ≤ j)
    (hb : Below w1.heap.size w1 w2) : OnI w0 (put_3 w2 b (.int .i64 room) (.int .i64 last') v') b B D room last' S' v' tv' pv' sv' nv' L' M' f' l' := by
  have hcp := chg_put3 w2 b (.int .i64 room) (.int .i64 last') v'
  have hlt := lt_of_blk h.box
  have hnk : ¬ DeskK D tv' pv' sv' nv' L' M' b := fun hh => (hk b hh).elim h.nb.2.2 (fun hh => by omega)
  have hx1 : w1.heap[b]? = _ := (hc.block b hlt (fun e => e.elim h.nb.2.1 h.nb.2.2)).trans h.box
  have hx2 := kept_block hb hx1
  refine ⟨(hs.below hb).other hcp (fun j _ e => ?_), fill_3 hx2, ⟨fun hh => h.nb.1 (hS b hh), h.nb.2.1, hnk⟩, below_chgs (trans2 (below_chgs h.below hc (fun j e => e.elim (fun e => by rw [e]; exact h.lowB) (h.lowK j))) ?_) hcp (fun j e => by have e : j = b := e; rw [e]; exact h.lowb), h.lowB, fun j hj => (hk j hj).elim (h.lowK j) (fun hh => Nat.le_trans h.below.size hh), h.lowb⟩
  · have e : j = b := e
    rw [e]
    exact ⟨fun hh => h.nb.1 (hS b hh), h.nb.2.1, hnk⟩
  · exact hb
theorem nil_row (w : World) (e sz : Nat) : w.ownsRow 0 e sz (.slice none 0 0) 0 [] := ⟨by simp, .inl ⟨rfl, rfl⟩⟩
theorem OnI.start {w0 w : World} {b B D room x : Nat} {S : Nat → Prop} (hq : QueueAt w S B 0 ⟨room, 0, x, []⟩) (hd : w.heap[D]? = some (.cells #[.slice none 0 0, .slice none 0 0, .slice none 0 0, .slice none 0 0] 72 (0, 0))) (hx : w.heap[b]? = some (.cells #[.int .i64 room, .int .i64 x, .slice none 0 0] 67 (0, 0))) (hn : ¬ S b ∧ ¬ S D ∧ b ≠ B ∧ b ≠ D ∧ D ≠ B) (hi : ∀ j, w.heap.size ≤ j → S j) (hb : Below w0.heap.size w0 w) (h1 : w0.heap.size ≤ B) (h2 : w0.heap.size ≤ D) (h3 : w0.heap.size ≤ b) : OnI w0 w b B D room x S (.slice none 0 0) (.slice none 0 0) (.slice none 0 0) (.slice none 0 0) (.slice none 0 0) [] [] 0 [] := by
  have hK : ∀ j, DeskK D (.slice none 0 0) (.slice none 0 0) (.slice none 0 0) (.slice none 0 0) [] [] j → j = D := fun j hj => by
    rcases hj with h | h | h | h | h | ⟨_, h, _⟩ | ⟨_, h, _⟩
    · exact h
    all_goals cases h
  refine ⟨⟨hq, ⟨none, 0, rfl, Nat.le_refl _, (fun _ => rfl), .inl rfl⟩, ⟨hd, ⟨0, [], nil_row _ _ _⟩, ⟨0, [], nil_row _ _ _⟩, ⟨nil_row _ _ _, (fun i t h => by cases h), (fun i j t u k h => by cases h)⟩, ⟨nil_row _ _ _, (fun i t h => by cases h), (fun i j t u k h => by cases h)⟩⟩, hi, fun j hj => ?_, Snd.nil _⟩, hx, ⟨hn.1, hn.2.2.1, fun hh => hn.2.2.2.1 (hK b hh)⟩, hb, h1, fun j hj => by rw [hK j hj]; exact h2, h3⟩
  rw [hK j hj]
  exact ⟨hn.2.1, hn.2.2.2.2⟩
end Go.Proofs.Ytlidkieljiebiaa
