/-
  queue: a queue in memory; the small functions.
-/
import Derived.Test.YtjcnigffpamcgaaGreatDoorQCopyT
import Derived.Test.YtjcnigffpamcgaaGreatDoorQCopyP
import Derived.Test.YtjcnigffpamcgaaGreatDoorQLocks
import Derived.Deep.WholeRow
namespace Go.Proofs.YtjcnigffpamcgaaGreatDoor
open Go.RowKit
set_option linter.unusedVariables false
set_option linter.unusedSimpArgs false

/-- A queue: its room, the place of the first item, the last stamp, the items. -/
structure QuT where
  room : Nat
  first : Nat
  last : Nat
  l : List ItT
structure QuT.Ok (Q : QuT) : Prop where
  room : Q.room ≤ 32
  first : Q.first ≤ 32
  fits : Q.l.length ≤ Q.room
  max : Q.last ≤ 2147483647
  small : ∀ e ∈ Q.l, e.Small
structure itE (w : World) (S : Nat → Prop) (b o : Nat) (t : ItT) (u1 u2 : Value) : Prop where
  st : w.cell? ⟨b, o, none⟩ = some (.int .i64 t.st)
  af : w.cell? ⟨b, o + 1, none⟩ = some (.int .i64 t.af)
  mark : w.cell? ⟨b, o + 2, none⟩ = some (.bool t.mark)
  c1 : w.cell? ⟨b, o + 3, none⟩ = some u1
  c2 : w.cell? ⟨b, o + 4, none⟩ = some u2
  cs : TgsAt w S u1 t.cs
  ps : PasAt w S u2 t.ps
theorem itE.keep {w w' : World} {S : Nat → Prop} {b o : Nat} {t : ItT} {u1 u2 : Value} (h : itE w S b o t u1 u2) (hk : Kp w w' S) (hc : ∀ j v, w.cell? ⟨b, j, none⟩ = some v → o ≤ j → j < o + 5 → w'.cell? ⟨b, j, none⟩ = some v) : itE w' S b o t u1 u2 :=
  ⟨hc _ _ h.st (by omega) (by omega), hc _ _ h.af (by omega) (by omega), hc _ _ h.mark (by omega) (by omega), hc _ _ h.c1 (by omega) (by omega), hc _ _ h.c2 (by omega) (by omega), TgsAt.keep h.cs hk, PasAt.keep h.ps hk⟩
theorem itE.mono {w : World} {S T : Nat → Prop} {b o : Nat} {t : ItT} {u1 u2 : Value} (h : itE w S b o t u1 u2) (hs : ∀ b, b < w.heap.size → S b → T b) : itE w T b o t u1 u2 := ⟨h.st, h.af, h.mark, h.c1, h.c2, TgsAt.mono h.cs hs, PasAt.mono h.ps hs⟩
/-- A queue that lies in memory; x: its lock. -/
structure QueueAt (w : World) (S : Nat → Prop) (b : Nat) (x : Int) (Q : QuT) : Prop where
  ok : Q.Ok
  out : ¬ S b
  box : ∃ cs : Array Value, w.heap[b]? = some (.cells cs 249 (0, 0)) ∧ cs.size = 166
  lock : w.cell? ⟨b, 0, none⟩ = some (.int .i32 x)
  room : w.cell? ⟨b, 162, none⟩ = some (.int .i64 Q.room)
  first : w.cell? ⟨b, 163, none⟩ = some (.int .i64 Q.first)
  count : w.cell? ⟨b, 164, none⟩ = some (.int .i64 Q.l.length)
  last : w.cell? ⟨b, 165, none⟩ = some (.int .i64 Q.last)
  items : ∀ k e, Q.l[k]? = some e → ∃ u1 u2, itE w S b (2 + (Q.first + k) % Q.room * 5) e u1 u2
theorem QueueAt.free {w : World} {S : Nat → Prop} {b : Nat} {x : Int} {Q : QuT} (h : QueueAt w S b x Q) (o : Nat) : w.frozen? ⟨b, o, none⟩ = false := by
  obtain ⟨cs, hb, _⟩ := h.box
  simp [World.frozen?, hb]
theorem QueueAt.lt {w : World} {S : Nat → Prop} {b : Nat} {x : Int} {Q : QuT} (h : QueueAt w S b x Q) : b < w.heap.size := by
  obtain ⟨cs, hb, _⟩ := h.box
  exact lt_of_blk hb
theorem QueueAt.keep {w w' : World} {S : Nat → Prop} {b : Nat} {x : Int} {Q : QuT} (h : QueueAt w S b x Q) (hk : Kp w w' (fun j => S j ∨ j = b)) : QueueAt w' S b x Q := by
  have hbk := hk.block b h.lt (.inr rfl)
  have hc : ∀ o v, w.cell? ⟨b, o, none⟩ = some v → w'.cell? ⟨b, o, none⟩ = some v := fun o v hv => by rw [World.cell?_of_block (w := w) hbk]; exact hv
  obtain ⟨cs, hx, hz⟩ := h.box
  refine ⟨h.ok, h.out, ⟨cs, by rw [hbk]; exact hx, hz⟩, hc _ _ h.lock, hc _ _ h.room, hc _ _ h.first, hc _ _ h.count, hc _ _ h.last, fun k e hk' => ?_⟩
  obtain ⟨u1, u2, hi⟩ := h.items k e hk'
  exact ⟨u1, u2, hi.keep (hk.mono (fun j _ hj => .inl hj)) (fun j v hj _ _ => hc _ _ hj)⟩
theorem QueueAt.below {w w' : World} {S : Nat → Prop} {b : Nat} {x : Int} {Q : QuT} (h : QueueAt w S b x Q) (hb : Below w.heap.size w w') : QueueAt w' S b x Q := h.keep (Kp.of_below hb _)
theorem QueueAt.mono {w : World} {S T : Nat → Prop} {b : Nat} {x : Int} {Q : QuT} (h : QueueAt w S b x Q) (hs : ∀ j, j < w.heap.size → S j → T j) (ht : ¬ T b) : QueueAt w T b x Q :=
  ⟨h.ok, ht, h.box, h.lock, h.room, h.first, h.count, h.last, fun k e hk => by
    obtain ⟨u1, u2, hi⟩ := h.items k e hk
    exact ⟨u1, u2, hi.mono hs⟩⟩
/-- A cell of the queue's own block is set. -/
theorem QueueAt.cells {w : World} {S : Nat → Prop} {b : Nat} {x : Int} {Q : QuT} (h : QueueAt w S b x Q) (o : Nat) (ho : o < 166) : ∃ y, w.cell? ⟨b, o, none⟩ = some y := by
  obtain ⟨cs, hx, hz⟩ := h.box
  exact ⟨cs[o]'(by omega), by rw [cell_of hx]; exact Array.getElem?_eq_getElem _⟩
theorem qset_lock {w : World} {S : Nat → Prop} {b : Nat} {x : Int} {Q : QuT} (h : QueueAt w S b x Q) (y : Int) : QueueAt (w.setCell ⟨b, 0, none⟩ (.int .i32 y)) S b y Q ∧ Chg w (w.setCell ⟨b, 0, none⟩ (.int .i32 y)) (fun j => j = b) := by
  have hch := Chg.set w ⟨b, 0, none⟩ (.int .i32 y)
  obtain ⟨cs, hx, hz⟩ := h.box
  have hx' := set_at (o := 0) (x := .int .i32 y) hx
  have hc : ∀ o v, w.cell? ⟨b, o, none⟩ = some v → 0 ≠ o → (w.setCell ⟨b, 0, none⟩ (.int .i32 y)).cell? ⟨b, o, none⟩ = some v := fun o v hv hne => by
    rw [cell_of hx] at hv
    rw [cell_of hx', Array.getElem?_setIfInBounds_ne hne]
    exact hv
  refine ⟨⟨h.ok, h.out, ⟨_, hx', by simpa using hz⟩, by rw [cell_of hx', Array.getElem?_setIfInBounds_self]; simp [hz], hc _ _ h.room (by omega), hc _ _ h.first (by omega), hc _ _ h.count (by omega), hc _ _ h.last (by omega), fun k e hk => ?_⟩, hch⟩
  obtain ⟨u1, u2, hi⟩ := h.items k e hk
  exact ⟨u1, u2, hi.keep (Kp.of_chg hch (fun j _ hj e => h.out (by have e : j = b := e; rw [← e]; exact hj))) (fun j v hj _ _ => hc _ _ hj (by omega))⟩
theorem drewN_keep {w : World} {S : Nat → Prop} {b : Nat} {x : Int} {Q : QuT} (h : QueueAt w S b x Q) (n : Nat) : QueueAt (w.drewN n) S b x Q := h.below (below_drewN (Below.refl _ _) n)
theorem slice_q (b h : Nat) (w : World) (h2 : h ≤ 32) : (Instr.sliceAt 247 (.pointer (some ⟨b, 2, none⟩)) none (some (.int .i64 h)) none).run Tryz.prog w = .ok (.slice (some ⟨b, 2, none⟩) h 32) w := by
  have a1 : Tryz.prog.underlying 247 = some (.array 32 130) := Tryz.underlying247
  have h3 : (h : Int) ≤ 32 := by omega
  simp [Instr.sliceAt, Instr.sliceBounds, go_sem, a1, Tryz.sizeOf130, addr_add, h3]
set_option maxHeartbeats 1600000 in
theorem at_any (b k : Nat) (x : Int) (Q : QuT) (w : World) (S : Nat → Prop) (h : QueueAt w S b x Q) (h0 : 0 < Q.room) (hk : k ≤ 32) :
    Calls Tryz.prog 134 #[.pointer (some ⟨b, 0, none⟩), .int .i64 k] w fun e w' => e = .returned (.pointer (some ⟨b, 2 + (Q.first + k) % Q.room * 5, none⟩)) ∧ ∃ n, w' = w.drewN n := by
  obtain ⟨room, first, last, l⟩ := Q
  simp only at h0
  have c0 := h.room
  have c1 := h.first
  have h1 : room ≤ 32 := h.ok.room
  have h2 : first ≤ 32 := h.ok.first
  simp only at c0 c1
  have hr0 : ¬ (room : Int) = 0 := by omega
  have hr1 : ((room : Int) == 0) = false := by simpa using hr0
  have hm : Int.tmod ((first : Int) + k) (room : Int) = (((first + k) % room : Nat) : Int) := by
    rw [Int.tmod_eq_emod_of_nonneg (by omega)]; rfl
  obtain ⟨z, hz⟩ : ∃ z, (first + k) % room = z := ⟨_, rfl⟩
  have hm' : ((first : Int) + k) % (room : Int) = (z : Int) := by rw [← hz]; rfl
  have hlt : z < room := by rw [← hz]; exact Nat.mod_lt _ h0
  have hltR : (z : Int) < (room : Int) := by omega
  rw [hz] at hm ⊢
  clear hz
  have hS1 : ∀ w : World, _ := fun w => slice_q b room w h1
  clear h
  go_enter Tryz.func134, Tryz.ntmps134
  go_wp2_with fail
  go_quiet (fail)
  go_wp2_with fail
  go_ret
  exact ⟨rfl, _, rfl⟩
end Go.Proofs.YtjcnigffpamcgaaGreatDoor
