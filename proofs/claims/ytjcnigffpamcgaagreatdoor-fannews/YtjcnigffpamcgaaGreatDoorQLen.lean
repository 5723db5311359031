/-
  queue: Len, Last.
-/
import Derived.Test.YtjcnigffpamcgaaGreatDoorQSmall
namespace Go.Proofs.YtjcnigffpamcgaaGreatDoor
open Go.RowKit Go.MuLone
set_option linter.unusedVariables false
set_option linter.unusedSimpArgs false

theorem set_set {w : World} {b i : Nat} {cs : Array Value} {t : TypeId} {v v' : Value} (h : w.heap[b]? = some (.cells cs t (0, 0))) : (w.setCell ⟨b, i, none⟩ v).setCell ⟨b, i, none⟩ v' = w.setCell ⟨b, i, none⟩ v' := by
  rw [setCell_eq_setRow (w.setCell ⟨b, i, none⟩ v) b i _ t (0, 0) v' (set_at h), setCell_eq_setRow w b i cs t (0, 0) v h, setCell_eq_setRow w b i cs t (0, 0) v' h, setRow_setRow]
  congr 1
  apply Array.ext_getElem?
  intro j
  simp only [Array.getElem?_setIfInBounds, Array.size_setIfInBounds]
  split <;> rfl
theorem lock_back {w : World} {S : Nat → Prop} {b : Nat} {Q : QuT} (h : QueueAt w S b 0 Q) : (w.setCell ⟨b, 0, none⟩ (.int .i32 1)).setCell ⟨b, 0, none⟩ (.int .i32 0) = w := by
  obtain ⟨cs, hx, hz⟩ := h.box
  rw [set_set hx]
  exact setCell_self hx h.lock
set_option maxHeartbeats 1600000 in
theorem len_some (b : Nat) (Q : QuT) (w : World) (S : Nat → Prop) (h : QueueAt w S b 0 Q) :
    Calls Tryz.prog 78 #[.pointer (some ⟨b, 0, none⟩)] w fun e w' => e = .returned (.int .i64 Q.l.length) ∧ w' = w := by
  have HQ : Hid (QueueAt w S b 0 Q) := h
  have HL : Hid (QueueAt (w.setCell ⟨b, 0, none⟩ (.int .i32 1)) S b 1 Q) := (qset_lock h 1).1
  have c0 := HL.out.count
  clear h
  go_enter_defers Tryz.func78, Tryz.ntmps78
  go_wp2_with (first
    | (go_at_call 132; refine (orZero_some b _).mono ?_; rintro e w1 ⟨rfl, rfl⟩)
    | (go_at_call 65; refine (lock_free Tryz.muLib ⟨b, 0, none⟩ _ HQ.out.lock (HQ.out.free 0)).mono ?_; rintro e w2 ⟨rfl, rfl⟩))
  refine leaves_cons (f := 66) (args := #[.pointer (some ⟨b, 0, none⟩)]) (by simp) (by simp [go_sem]) ?_
  refine (unlock_deferred Tryz.muLib ⟨b, 0, none⟩ .returning _ HL.out.lock (HL.out.free 0)).mono ?_
  rintro e u' w'' ⟨rfl, rfl, rfl⟩
  exact ⟨_, results_tmp rfl _ _ _, rfl, lock_back HQ.out⟩
end Go.Proofs.YtjcnigffpamcgaaGreatDoor
