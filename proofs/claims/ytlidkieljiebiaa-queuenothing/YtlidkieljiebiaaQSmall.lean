import Derived.Test.YtlidkieljiebiaaRows
import Derived.Conc.MuLone
import Derived.Conc.MuData
import Derived.KernelRfl
import Derived.Test.YtlidkieljiebiaaQCopyT
import Derived.Test.YtlidkieljiebiaaQCopyP
import Derived.Deep.WholeRow
namespace Go.Proofs
abbrev Try.muLink : Go.Conc.Locks.MuLink := { lock := 30, unlock := 31, ilock := 58, iunlock := 59, lockSlow := 76, unlockSlow := 79, disable := 72, enable := 74, acquire := 75, relMerge := 77, cas32 := 73, add32 := 78, tMutex := 62, tIMutex := 60, tPMutex := 121, tPIMutex := 138, tPI32 := 140, tUP := 142, tNoCopy := 57, tU32 := 58 }
theorem Try.muLib : Go.Conc.Locks.MuLib Try.prog Try.muLink :=
  ⟨Try.func30, Try.func31, Try.func58, Try.func59, Try.func72, Try.func74, Try.func75, Try.func77, Try.func73, Try.func78, Try.underlying60, Try.runUnderlying60, Try.sizeOf60, Try.isAgg60, Try.zeroValue60, Try.underlying62, Try.runUnderlying62, Try.sizeOf62, Try.isAgg62, Try.zeroValue62, Try.underlying121, Try.runUnderlying121, Try.sizeOf121, Try.isAgg121, Try.zeroValue121, Try.underlying138, Try.runUnderlying138, Try.sizeOf138, Try.isAgg138, Try.zeroValue138, Try.underlying140, Try.runUnderlying140, Try.sizeOf140, Try.isAgg140, Try.zeroValue140, Try.underlying142, Try.runUnderlying142, Try.sizeOf142, Try.isAgg142, Try.zeroValue142, Try.underlying57, Try.runUnderlying57, Try.sizeOf57, Try.isAgg57, Try.zeroValue57, Try.underlying21, Try.runUnderlying21, Try.sizeOf21, Try.isAgg21, Try.zeroValue21, (by kernel_rfl)⟩
end Go.Proofs
namespace Go.Proofs.Ytlidkieljiebiaa
open Go.RowKit
set_option linter.unusedVariables false
set_option linter.unusedSimpArgs false

/-- A queue: its room, the place of the first item, the last stamp, the items. -/
structure QuT where
  room : Nat
  first : Nat
  last : Nat
  l : List ItT
structure QuT.Ok (Q : QuT) : Prop where
  room : Q.room ≤ 32
  first : Q.first ≤ 32
  fits : Q.l.length ≤ Q.room
  max : Q.last ≤ 2147483647
  small : ∀ e ∈ Q.l, e.Small
structure itE (w : World) (S : Nat → Prop) (b o : Nat) (t : ItT) (u1 u2 : Value) : Prop where
  st : w.cell? ⟨b, o, none⟩ = some (.int .i64 t.st)
  af : w.cell? ⟨b, o + 1, none⟩ = some (.int .i64 t.af)
  mark : w.cell? ⟨b, o + 2, none⟩ = some (.bool t.mark)
  c1 : w.cell? ⟨b, o + 3, none⟩ = some u1
  c2 : w.cell? ⟨b, o + 4, none⟩ = some u2
  cs : TgsAt w S u1 t.cs
  ps : PasAt w S u2 t.ps
theorem itE.keep {w w' : World} {S : Nat → Prop} {b o : Nat} {t : ItT} {u1 u2 : Value} (h : itE w S b o t u1 u2) (hk : Kp w w' S) (hc : ∀ j v, w.cell? ⟨b, j, none⟩ = some v → o ≤ j → j < o + 5 → w'.cell? ⟨b, j, none⟩ = some v) : itE w' S b o t u1 u2 :=
  ⟨hc _ _ h.st (by omega) (by omega), hc _ _ h.af (by omega) (by omega), hc _ _ h.mark (by omega) (by omega), hc _ _ h.c1 (by omega) (by omega), hc _ _ h.c2 (by omega) (by omega), TgsAt.keep h.cs hk, PasAt.keep h.ps hk⟩
theorem itE.mono {w : World} {S T : Nat → Prop} {b o : Nat} {t : ItT} {u1 u2 : Value} (h : itE w S b o t u1 u2) (hs : ∀ b, b < w.heap.size → S b → T b) : itE w T b o t u1 u2 := ⟨h.st, h.af, h.mark, h.c1, h.c2, TgsAt.mono h.cs hs, PasAt.mono h.ps hs⟩
/-- A queue that lies in memory; x: its lock. -/
structure QueueAt (w : World) (S : Nat → Prop) (b : Nat) (x : Int) (Q : QuT) : Prop where
  ok : Q.Ok
  out : ¬ S b
  box : ∃ cs : Array Value, w.heap[b]? = some (.cells cs 65 (0, 0)) ∧ cs.size = 166
  lock : w.cell? ⟨b, 0, none⟩ = some (.int .i32 x)
  room : w.cell? ⟨b, 162, none⟩ = some (.int .i64 Q.room)
  first : w.cell? ⟨b, 163, none⟩ = some (.int .i64 Q.first)
  count : w.cell? ⟨b, 164, none⟩ = some (.int .i64 Q.l.length)
  last : w.cell? ⟨b, 165, none⟩ = some (.int .i64 Q.last)
  items : ∀ k e, Q.l[k]? = some e → ∃ u1 u2, itE w S b (2 + (Q.first + k) % Q.room * 5) e u1 u2
theorem QueueAt.free {w : World} {S : Nat → Prop} {b : Nat} {x : Int} {Q : QuT} (h : QueueAt w S b x Q) (o : Nat) : w.frozen? ⟨b, o, none⟩ = false := by
  obtain ⟨cs, hb, _⟩ := h.box
  simp [World.frozen?, hb]
theorem QueueAt.lt {w : World} {S : Nat → Prop} {b : Nat} {x : Int} {Q : QuT} (h : QueueAt w S b x Q) : b < w.heap.size := by
  obtain ⟨cs, hb, _⟩ := h.box
  exact lt_of_blk hb
theorem QueueAt.keep {w w' : World} {S : Nat → Prop} {b : Nat} {x : Int} {Q : QuT} (h : QueueAt w S b x Q) (hk : Kp w w' (fun j => S j ∨ j = b)) : QueueAt w' S b x Q := by
  have hbk := hk.block b h.lt (.inr rfl)
  have hc : ∀ o v, w.cell? ⟨b, o, none⟩ = some v → w'.cell? ⟨b, o, none⟩ = some v := fun o v hv => by rw [World.cell?_of_block (w := w) hbk]; exact hv
  obtain ⟨cs, hx, hz⟩ := h.box
  refine ⟨h.ok, h.out, ⟨cs, by rw [hbk]; exact hx, hz⟩, hc _ _ h.lock, hc _ _ h.room, hc _ _ h.first, hc _ _ h.count, hc _ _ h.last, fun k e hk' => ?_⟩
  obtain ⟨u1, u2, hi⟩ := h.items k e hk'
  exact ⟨u1, u2, hi.keep (hk.mono (fun j _ hj => .inl hj)) (fun j v hj _ _ => hc _ _ hj)⟩
theorem QueueAt.below {w w' : World} {S : Nat → Prop} {b : Nat} {x : Int} {Q : QuT} (h : QueueAt w S b x Q) (hb : Below w.heap.size w w') : QueueAt w' S b x Q := h.keep (Kp.of_below hb _)
theorem QueueAt.mono {w : World} {S T : Nat → Prop} {b : Nat} {x : Int} {Q : QuT} (h : QueueAt w S b x Q) (hs : ∀ j, j < w.heap.size → S j → T j) (ht : ¬ T b) : QueueAt w T b x Q :=
  ⟨h.ok, ht, h.box, h.lock, h.room, h.first, h.count, h.last, fun k e hk => by
    obtain ⟨u1, u2, hi⟩ := h.items k e hk
    exact ⟨u1, u2, hi.mono hs⟩⟩
/-- A cell of the queue's own block is set. -/
theorem QueueAt.cells {w : World} {S : Nat → Prop} {b : Nat} {x : Int} {Q : QuT} (h : QueueAt w S b x Q) (o : Nat) (ho : o < 166) : ∃ y, w.cell? ⟨b, o, none⟩ = some y := by
  obtain ⟨cs, hx, hz⟩ := h.box
  exact ⟨cs[o]'(by omega), by rw [cell_of hx]; exact Array.getElem?_eq_getElem _⟩
theorem qset_lock {w : World} {S : Nat → Prop} {b : Nat} {x : Int} {Q : QuT} (h : QueueAt w S b x Q) (y : Int) : QueueAt (w.setCell ⟨b, 0, none⟩ (.int .i32 y)) S b y Q ∧ Chg w (w.setCell ⟨b, 0, none⟩ (.int .i32 y)) (fun j => j = b) := by
  have hch := Chg.set w ⟨b, 0, none⟩ (.int .i32 y)
  obtain ⟨cs, hx, hz⟩ := h.box
  have hx' := set_at (o := 0) (x := .int .i32 y) hx
  have hc : ∀ o v, w.cell? ⟨b, o, none⟩ = some v → 0 ≠ o → (w.setCell ⟨b, 0, none⟩ (.int .i32 y)).cell? ⟨b, o, none⟩ = some v := fun o v hv hne => by
    rw [cell_of hx] at hv
    rw [cell_of hx', Array.getElem?_setIfInBounds_ne hne]
    exact hv
  refine ⟨⟨h.ok, h.out, ⟨_, hx', by simpa using hz⟩, by rw [cell_of hx', Array.getElem?_setIfInBounds_self]; simp [hz], hc _ _ h.room (by omega), hc _ _ h.first (by omega), hc _ _ h.count (by omega), hc _ _ h.last (by omega), fun k e hk => ?_⟩, hch⟩
  obtain ⟨u1, u2, hi⟩ := h.items k e hk
  exact ⟨u1, u2, hi.keep (Kp.of_chg hch (fun j _ hj e => h.out (by have e : j = b := e; rw [← e]; exact hj))) (fun j v hj _ _ => hc _ _ hj (by omega))⟩
theorem drewN_keep {w : World} {S : Nat → Prop} {b : Nat} {x : Int} {Q : QuT} (h : QueueAt w S b x Q) (n : Nat) : QueueAt (w.drewN n) S b x Q := h.below (below_drewN (Below.refl _ _) n)
theorem slice_q (b h : Nat) (w : World) (h2 : h ≤ 32) : (Instr.sliceAt 63 (.pointer (some ⟨b, 2, none⟩)) none (some (.int .i64 h)) none).run Try.prog w = .ok (.slice (some ⟨b, 2, none⟩) h 32) w := by
  have a1 : Try.prog.underlying 63 = some (.array 32 42) := Try.underlying63
  have h3 : (h : Int) ≤ 32 := by omega
  simp [Instr.sliceAt, Instr.sliceBounds, go_sem, a1, Try.sizeOf42, addr_add, h3]
set_option maxHeartbeats 1600000 in
theorem at_any (b k : Nat) (x : Int) (Q : QuT) (w : World) (S : Nat → Prop) (h : QueueAt w S b x Q) (h0 : 0 < Q.room) (hk : k ≤ 32) :
    Calls Try.prog 41 #[.pointer (some ⟨b, 0, none⟩), .int .i64 k] w fun e w' => e = .returned (.pointer (some ⟨b, 2 + (Q.first + k) % Q.room * 5, none⟩)) ∧ ∃ n, w' = w.drewN n := by
  obtain ⟨room, first, last, l⟩ := Q
  simp only at h0
  have c0 := h.room
  have c1 := h.first
  have h1 : room ≤ 32 := h.ok.room
  have h2 : first ≤ 32 := h.ok.first
  simp only at c0 c1
  have hr0 : ¬ (room : Int) = 0 := by omega
  have hr1 : ((room : Int) == 0) = false := by simpa using hr0
  have hm : Int.tmod ((first : Int) + k) (room : Int) = (((first + k) % room : Nat) : Int) := by
    rw [Int.tmod_eq_emod_of_nonneg (by omega)]; rfl
  obtain ⟨z, hz⟩ : ∃ z, (first + k) % room = z := ⟨_, rfl⟩
  have hm' : ((first : Int) + k) % (room : Int) = (z : Int) := by rw [← hz]; rfl
  have hlt : z < room := by rw [← hz]; exact Nat.mod_lt _ h0
  have hltR : (z : Int) < (room : Int) := by omega
  rw [hz] at hm ⊢
  clear hz
  have hS1 : ∀ w : World, _ := fun w => slice_q b room w h1
  clear h
  go_enter Try.func41, Try.ntmps41
  go_wp2_with fail
  go_quiet (fail)
  go_wp2_with fail
  go_ret
  exact ⟨rfl, _, rfl⟩
end Go.Proofs.Ytlidkieljiebiaa
namespace Go.Proofs.Ytlidkieljiebiaa
open Go.RowKit
set_option linter.unusedVariables false
set_option linter.unusedSimpArgs false

theorem orZero_some (b : Nat) (w : World) : Calls Try.prog 29 #[.pointer (some ⟨b, 0, none⟩)] w fun e w' => e = .returned (.pointer (some ⟨b, 0, none⟩)) ∧ w' = w := by
  go_enter Try.func29, Try.ntmps29
  go_wp2_with fail
  go_ret
  exact ⟨rfl, rfl⟩
/-- The cells of a queue that is all zero, but for its room and last stamp. -/
def quCs (r x : Int) : Array Value := ([Value.int .i32 0, Value.int .u32 0] ++ ((List.replicate 32 [Value.int .i64 0, Value.int .i64 0, Value.bool false, Value.slice none 0 0, Value.slice none 0 0]).flatten ++ [Value.int .i64 r, Value.int .i64 0, Value.int .i64 0, Value.int .i64 x])).toArray
theorem zero_queue : (Try.prog.info? 65).map (fun i => (i.zero, i.size)) = some (some (.agg (quCs 0 0)), 166) := by kernel_rfl
theorem quCs_size (r x : Int) : (quCs r x).size = 166 := by kernel_rfl
theorem quCs_at (r x : Int) : (quCs r x)[0]? = some (.int .i32 0) ∧ (quCs r x)[162]? = some (.int .i64 r) ∧ (quCs r x)[163]? = some (.int .i64 0) ∧ (quCs r x)[164]? = some (.int .i64 0) ∧ (quCs r x)[165]? = some (.int .i64 x) := ⟨by kernel_rfl, by kernel_rfl, by kernel_rfl, by kernel_rfl, by kernel_rfl⟩
def zeroQ : QuT := ⟨0, 0, 0, []⟩
theorem queue_new {w : World} {S : Nat → Prop} {r x : Nat} {Z : Array Value} (hZ : Z = quCs r x) (hr : r ≤ 32) (hx : x ≤ 2147483647) (hS : ¬ S w.heap.size) : QueueAt (w.alloc (.cells Z 65)) S w.heap.size 0 ⟨r, 0, x, []⟩ := by
  have hb : (w.alloc (.cells Z 65)).heap[w.heap.size]? = some (.cells Z 65 (0, 0)) := heap_alloc_new _ _
  refine ⟨⟨hr, Nat.zero_le _, Nat.zero_le _, hx, fun e he => by cases he⟩, hS, ⟨Z, hb, by rw [hZ]; exact quCs_size _ _⟩, ?_, ?_, ?_, ?_, ?_, fun k e hk => by simp at hk⟩
  all_goals rw [cell_of hb, hZ]
  · exact (quCs_at r x).1
  · exact (quCs_at r x).2.1
  · exact (quCs_at r x).2.2.1
  · exact (quCs_at r x).2.2.2.1
  · exact (quCs_at r x).2.2.2.2
set_option maxHeartbeats 1600000 in
theorem orZero_none (w : World) (S : Nat → Prop) (hS : ¬ S w.heap.size) : Calls Try.prog 29 #[.pointer none] w fun e w' => e = .returned (.pointer (some ⟨w.heap.size, 0, none⟩)) ∧ QueueAt w' S w.heap.size 0 zeroQ ∧ Below w.heap.size w w' := by
  have hz := (zero_of_info zero_queue).1
  have hs := (zero_of_info zero_queue).2
  obtain ⟨Z, hZ⟩ : ∃ Z, Z = quCs 0 0 := ⟨_, rfl⟩
  rw [← hZ] at hz
  have HZ : Hid (Z = quCs 0 0) := hZ
  clear hZ
  go_enter Try.func29, Try.ntmps29
  go_wp2_with fail
  go_ret
  exact ⟨rfl, queue_new (r := 0) (x := 0) HZ.out (by decide) (by decide) hS, (Below.refl _ _).alloc (Nat.le_refl _) _⟩
def mayQ (last : Nat) (st : Int) (says : Bool) : Int := if 2147483647 < st then 3 else if st ≤ last ∨ says = false then 100 else 0
set_option maxHeartbeats 1600000 in
theorem mayFollow_any (b : Nat) (x : Int) (Q : QuT) (w : World) (S : Nat → Prop) (h : QueueAt w S b x Q) (st : Int) (says : Bool) :
    Calls Try.prog 32 #[.pointer (some ⟨b, 0, none⟩), .int .i64 st, .bool says] w fun e w' => e = .returned (.int .i64 (mayQ Q.last st says)) ∧ w' = w := by
  have c := h.last
  clear h
  by_cases h1 : 2147483647 < st
  · have HM : Hid (mayQ Q.last st says = 3) := by show _ = _; unfold mayQ; rw [if_pos h1]
    go_enter Try.func32, Try.ntmps32
    go_wp2_with fail
    go_ret
    exact ⟨by rw [HM.out]; rfl, rfl⟩
  · by_cases h2 : st ≤ (Q.last : Int)
    · have HM : Hid (mayQ Q.last st says = 100) := by show _ = _; unfold mayQ; rw [if_neg h1, if_pos (.inl h2)]
      go_enter Try.func32, Try.ntmps32
      go_wp2_with fail
      go_ret
      exact ⟨by rw [HM.out]; rfl, rfl⟩
    · cases says with
      | true =>
        have HM : Hid (mayQ Q.last st true = 0) := by show _ = _; unfold mayQ; rw [if_neg h1, if_neg (by simp [h2])]
        go_enter Try.func32, Try.ntmps32
        go_wp2_with fail
        go_ret
        exact ⟨by rw [HM.out]; rfl, rfl⟩
      | false =>
        have HM : Hid (mayQ Q.last st false = 100) := by show _ = _; unfold mayQ; rw [if_neg h1, if_pos (.inr rfl)]
        go_enter Try.func32, Try.ntmps32
        go_wp2_with fail
        go_ret
        exact ⟨by rw [HM.out]; rfl, rfl⟩
def QuT.begin (Q : QuT) : Int := match Q.l with | [] => Q.last | e :: _ => e.af
set_option maxHeartbeats 1600000 in
theorem begin_any (b : Nat) (x : Int) (Q : QuT) (w : World) (S : Nat → Prop) (h : QueueAt w S b x Q) :
    Calls Try.prog 37 #[.pointer (some ⟨b, 0, none⟩)] w fun e w' => e = .returned (.int .i64 Q.begin) ∧ ∃ n, w' = w.drewN n := by
  have c0 := h.count
  have c1 := h.last
  cases hl : Q.l with
  | nil =>
    have HM : Hid (Q.begin = Q.last) := by show _ = _; unfold QuT.begin; rw [hl]
    rw [hl] at c0
    simp only [List.length_nil] at c0
    clear h hl
    go_enter Try.func37, Try.ntmps37
    go_wp2_with fail
    go_ret
    exact ⟨by rw [HM.out]; rfl, 0, rfl⟩
  | cons e r =>
    have HM : Hid (Q.begin = e.af) := by show _ = _; unfold QuT.begin; rw [hl]
    rw [hl] at c0
    have hz : (((e :: r).length : Int) == 0) = false := by simp; omega
    have h0 : 0 < Q.room := by have := h.ok.fits; rw [hl] at this; simp at this; omega
    obtain ⟨u1, u2, hi⟩ := h.items 0 e (by rw [hl]; rfl)
    have HA : Hid _ := at_any b 0 x Q w S h h0 (by decide)
    obtain ⟨n, hn⟩ : ∃ n, (e :: r).length = n := ⟨_, rfl⟩
    rw [hn] at c0 hz
    have HI : Hid _ := hi.af
    rw [Nat.add_zero] at HA HI
    have HH : Hid (QueueAt w S b x Q) := h
    clear h hl hi hn
    go_enter Try.func37, Try.ntmps37
    go_wp2_with fail
    refine Calls.mono HA.out ?_
    rintro e' w' ⟨rfl, nn, rfl⟩
    have c2 : (w.drewN nn).cell? ⟨b, 2 + Q.first % Q.room * 5 + 1, none⟩ = some (.int .i64 e.af) := HI.out
    go_wp2_with fail
    go_ret
    exact ⟨by rw [HM.out]; rfl, nn, rfl⟩
def newQ (r x : Int) : Int := if r < 1 ∨ 32 < r then 1 else if x < 0 ∨ 2147483647 < x then 3 else 0
set_option maxHeartbeats 1600000 in
theorem new_ok (r x : Int) (w : World) (S : Nat → Prop) (hS : ¬ S w.heap.size) (h : newQ r x = 0) :
    Calls Try.prog 9 #[.int .i64 r, .int .i64 x] w fun e w' => e = .returned (.tuple #[.pointer (some ⟨w.heap.size, 0, none⟩), .int .i64 0]) ∧ QueueAt w' S w.heap.size 0 ⟨r.toNat, 0, x.toNat, []⟩ ∧ Below w.heap.size w w' := by
  have hh : ¬ (r < 1 ∨ 32 < r) ∧ ¬ (x < 0 ∨ 2147483647 < x) := by
    unfold newQ at h
    split at h
    · cases h
    · split at h
      · cases h
      · exact ⟨by assumption, by assumption⟩
  have a0 : ¬ r < 1 := fun h => hh.1 (.inl h)
  have a1 : ¬ 32 < r := fun h => hh.1 (.inr h)
  have b0 : ¬ x < 0 := fun h => hh.2 (.inl h)
  have b1 : ¬ 2147483647 < x := fun h => hh.2 (.inr h)
  have hz := (zero_of_info zero_queue).1
  have hs := (zero_of_info zero_queue).2
  obtain ⟨Z, hZ⟩ : ∃ Z, Z = quCs 0 0 := ⟨_, rfl⟩
  rw [← hZ] at hz
  have HZ : Hid (Z = quCs 0 0) := hZ
  have hsz : Z.size = 166 := by rw [hZ]; exact quCs_size _ _
  clear hZ h hh
  go_enter Try.func9, Try.ntmps9
  go_wp2_with fail
  go_ret2
  obtain ⟨C, hC⟩ : ∃ C, C = ((Z.setIfInBounds 162 (Value.int .i64 r)).setIfInBounds 165 (Value.int .i64 x)) := ⟨_, rfl⟩
  rw [← hC]
  have hx : (w.alloc (.cells C 65)).heap[w.heap.size]? = some (.cells C 65 (0, 0)) := heap_alloc_new _ _
  have hf : ((x.toNat : Nat) : Int) = x := by omega
  have hr : ((r.toNat : Nat) : Int) = r := by omega
  obtain ⟨q0, q1, q2, q3, q4⟩ := quCs_at 0 0
  refine ⟨rfl, ⟨⟨by show r.toNat ≤ 32; omega, Nat.zero_le _, Nat.zero_le _, by show x.toNat ≤ _; omega, fun e he => (by cases he)⟩, hS, ⟨C, hx, by rw [hC]; simpa using hsz⟩, ?_, ?_, ?_, ?_, ?_, fun k e hk => by cases hk⟩, (Below.refl _ _).alloc (Nat.le_refl _) _⟩
  all_goals rw [cell_of hx, hC]
  · rw [Array.getElem?_setIfInBounds_ne (by omega), Array.getElem?_setIfInBounds_ne (by omega), HZ.out]; exact q0
  · show _ = some (Value.int .i64 ((r.toNat : Nat) : Int))
    rw [hr]
    simp [Array.getElem?_setIfInBounds, hsz]
  · rw [Array.getElem?_setIfInBounds_ne (by omega), Array.getElem?_setIfInBounds_ne (by omega), HZ.out]; exact q2
  · rw [Array.getElem?_setIfInBounds_ne (by omega), Array.getElem?_setIfInBounds_ne (by omega), HZ.out]; exact q3
  · show _ = some (Value.int .i64 ((x.toNat : Nat) : Int))
    rw [hf]
    simp [Array.getElem?_setIfInBounds, hsz]
set_option maxHeartbeats 1600000 in
theorem new_no (r x : Int) (w : World) (h : newQ r x ≠ 0) :
    Calls Try.prog 9 #[.int .i64 r, .int .i64 x] w fun e w' => e = .returned (.tuple #[.pointer none, .int .i64 (newQ r x)]) ∧ w' = w := by
  by_cases h1 : r < 1
  · have HM : Hid (newQ r x = 1) := by show _ = _; unfold newQ; rw [if_pos (.inl h1)]
    clear h
    go_enter Try.func9, Try.ntmps9
    go_wp2_with fail
    go_ret2
    exact ⟨by rw [HM.out]; rfl, rfl⟩
  · by_cases h2 : 32 < r
    · have HM : Hid (newQ r x = 1) := by show _ = _; unfold newQ; rw [if_pos (.inr h2)]
      clear h
      go_enter Try.func9, Try.ntmps9
      go_wp2_with fail
      go_ret2
      exact ⟨by rw [HM.out]; rfl, rfl⟩
    · have hr : ¬ (r < 1 ∨ 32 < r) := by omega
      by_cases h3 : x < 0
      · have HM : Hid (newQ r x = 3) := by show _ = _; unfold newQ; rw [if_neg hr, if_pos (.inl h3)]
        clear h hr
        go_enter Try.func9, Try.ntmps9
        go_wp2_with fail
        go_ret2
        exact ⟨by rw [HM.out]; rfl, rfl⟩
      · by_cases h4 : 2147483647 < x
        · have HM : Hid (newQ r x = 3) := by show _ = _; unfold newQ; rw [if_neg hr, if_pos (.inr h4)]
          clear h hr
          go_enter Try.func9, Try.ntmps9
          go_wp2_with fail
          go_ret2
          exact ⟨by rw [HM.out]; rfl, rfl⟩
        · exact absurd (by unfold newQ; rw [if_neg hr, if_neg (by omega)]) h
end Go.Proofs.Ytlidkieljiebiaa
