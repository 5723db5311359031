/-
  RingMayStop: the ring meanwhile.
-/
import Derived.Test.YtonppfnjeomcoaaRFilled
import Derived.Test.YtonppfnjeomcoaaRRangeN
namespace Go.Proofs.Ytonppfnjeomcoaa
open Go.RowKit
set_option linter.unusedVariables false
set_option linter.unusedSimpArgs false

/-- The entry that each round appends. -/
def nxt (R : RingT) : EnT := ⟨(R.last : Int) + 1, R.top, 0, 9, 0, []⟩
def stp (R : RingT) : RingT := { R.app (nxt R) with hold := R.last + 1 }
structure StG (rm n q : Nat) (R : RingT) : Prop where
  room : R.room = rm
  pos : 1 ≤ rm
  hold : R.hold = R.last
  last : R.last = n + q
  small : n + q ≤ 1000
  top : 0 ≤ R.top ∧ R.top ≤ 1000
  len : R.l.length = min (n + q) rm
theorem StG.start (room n : Nat) (h : 1 ≤ room) (hn : n ≤ 200) : StG room n 0 (fR room n) :=
  ⟨rfl, h, (fR_last room n).symm, by rw [fR_last]; rfl, by omega, by rw [fR_top room n h]; omega, by rw [fR_len]; rfl⟩
theorem StG.may {room n q : Nat} {R : RingT} (h : StG room n q R) : R.may (nxt R) = 0 := by
  unfold RingT.may
  have h1 : R.last = R.floor + R.l.length := rfl
  have h2 := h.last
  have h3 := h.small
  have h4 := h.hold
  have h5 := h.room
  have h6 := h.pos
  have h7 := h.top
  have e1 : (nxt R).v = R.top := rfl
  have e2 : (nxt R).s = (R.last : Int) + 1 := rfl
  rw [e1, e2, if_neg (by omega), if_neg (by omega), if_neg (by omega), if_neg (by omega)]
theorem app_len {R : RingT} {e : EnT} (h : 1 ≤ R.room) : (R.app e).l.length = if R.l.length = R.room then R.room else R.l.length + 1 := by
  unfold RingT.app
  split
  · rename_i hf
    simp only [List.length_append, List.length_tail, List.length_cons, List.length_nil]
    omega
  · simp
theorem app_last {R : RingT} {e : EnT} (h : 1 ≤ R.room) : (R.app e).last = R.last + 1 := by
  have h1 := app_len (e := e) h
  show (R.app e).floor + (R.app e).l.length = R.floor + R.l.length + 1
  rw [h1]
  unfold RingT.app
  split
  · rename_i hf
    show R.floor + 1 + R.room = _
    omega
  · show R.floor + _ = _
    omega
theorem app_hold (R : RingT) (e : EnT) : (R.app e).hold = R.hold := by unfold RingT.app; split <;> rfl
theorem app_room (R : RingT) (e : EnT) : (R.app e).room = R.room := by unfold RingT.app; split <;> rfl
theorem app_top (R : RingT) (e : EnT) : (R.app e).top = e.v := by
  have h : ∃ l, (R.app e).l = l ++ [e] := by
    unfold RingT.app
    split
    · exact ⟨_, rfl⟩
    · exact ⟨_, rfl⟩
  obtain ⟨l, hl⟩ := h
  unfold RingT.top
  rw [hl, List.getLast?_append]
  rfl
theorem StG.free {room n q : Nat} {R : RingT} (h : StG room n q R) : (R.app (nxt R)).free ((R.last : Int) + 1) = 0 := by
  unfold RingT.free
  have h6 := h.pos
  have h5 := h.room
  rw [app_hold, app_last (by omega), h.hold, if_neg (by omega), if_neg (by omega)]
theorem StG.next {room n q : Nat} {R : RingT} (h : StG room n q R) (hs : n + q + 1 ≤ 1000) : StG room n (q + 1) (stp R) := by
  have h6 := h.pos
  have h5 := h.room
  refine ⟨by show (R.app (nxt R)).room = room; rw [app_room]; exact h5, h6, ?_, ?_, by omega, ?_, ?_⟩
  · show R.last + 1 = (R.app (nxt R)).last
    rw [app_last (by omega)]
  · show (R.app (nxt R)).last = _
    rw [app_last (by omega), h.last]
    omega
  · have : (stp R).top = R.top := app_top R (nxt R)
    rw [this]
    exact h.top
  · show (R.app (nxt R)).l.length = _
    have h7 := h.len
    rw [app_len (by omega)]
    split <;> omega
theorem nxt_small (R : RingT) : (nxt R).Small := ⟨by show 0 * 56 ≤ 140737488355328; decide, fun o ho => by cases ho⟩
/-- Append of the next entry. -/
theorem append_nxt {room n q : Nat} {R : RingT} (h : StG room n q R) (b : Nat) (L T : Int) (w : World) (hr : RingAt w b R) (hL : (R.last : Int) = L) (hT : R.top = T) :
    Calls Try.prog 15 #[.pointer (some ⟨b, 0, none⟩), .agg #[.int .i64 (L + 1), .int .i64 T, .int .i64 0, .int .i64 9, .int .i64 0, .slice none 0 0]] w fun e' w' => e' = .returned (.int .i64 0) ∧ RingAt w' b (R.app (nxt R)) ∧ Chg w w' (fun k => k = b) := by
  have key := append_any (some ⟨b, 0, none⟩) R (nxt R) none 0 0 w (.inr ⟨b, rfl, hr⟩) rfl (.inl rfl) (fun b' o' hh => by cases hh) (nxt_small R)
  rw [h.may, if_pos rfl] at key
  subst hL
  subst hT
  refine key.mono ?_
  rintro e' w' ⟨rfl, hs⟩
  refine ⟨rfl, ?_, hs.chg.mono (fun k _ e => by cases e; rfl)⟩
  rcases hs.rp with ⟨h0, _⟩ | ⟨b', h0, hr⟩
  · cases h0
  · cases h0
    exact hr
theorem hold_nxt {room n q : Nat} {R : RingT} (h : StG room n q R) (b : Nat) (L : Int) (w : World) (hr : RingAt w b (R.app (nxt R))) (hL : (R.last : Int) = L) :
    Calls Try.prog 16 #[.pointer (some ⟨b, 0, none⟩), .int .i64 (L + 1)] w fun e' w' => e' = .returned (.int .i64 0) ∧ RingAt w' b (stp R) ∧ Chg w w' (fun k => k = b) := by
  have key := hold_any (some ⟨b, 0, none⟩) (R.app (nxt R)) (L + 1) w (.inr ⟨b, rfl, hr⟩)
  subst hL
  rw [h.free, if_pos rfl] at key
  refine key.mono ?_
  rintro e' w' ⟨rfl, hs⟩
  refine ⟨rfl, ?_, hs.chg.mono (fun k _ e => by cases e; rfl)⟩
  have e1 : ((R.last : Int) + 1).toNat = R.last + 1 := by omega
  rw [e1] at hs
  rcases hs.rp with ⟨h0, _⟩ | ⟨b', h0, hr⟩
  · cases h0
  · cases h0
    exact hr
/-- Entries in memory, where other cells turn. -/
theorem EntsAt.kp {w w' : World} {v : Value} {P : List PEnt} {S : Nat → Prop} (h : EntsAt w v P) (hk : Kp S w w') (hS : ∀ k cs t fr, w.heap[k]? = some (.cells cs t fr) → S k → t ≠ 33 ∧ t ≠ 44) : EntsAt w' v P := by
  refine ⟨owns_kp h.row hk (fun k e s => ?_), fun p hp => owns_kp (h.ops p hp) hk (fun k e s => ?_)⟩
  · obtain ⟨cur, hc⟩ := owns_kind h.row e
    exact (hS k _ _ _ hc s).1 rfl
  · obtain ⟨cur, hc⟩ := owns_kind (h.ops p hp) e
    exact (hS k _ _ _ hc s).2 rfl
end Go.Proofs.Ytonppfnjeomcoaa
