/-
  played, at any ring; New of the document's.
-/
import Derived.Test.YtonppfnjeomcoaaRApp1G
import Derived.Test.YtonppfnjeomcoaaRNoWalk
namespace Go.Proofs.Ytonppfnjeomcoaa
open Go.RowKit Classical
set_option linter.unusedVariables false
set_option linter.unusedSimpArgs false

theorem append1G {w0 : World} (b bx : Nat) (e : EnT) (a : Option Addr) (c n : Nat) (w : World) {R : RingT} {F : Nat} {O : Int} {H : List EnT} {P : List PEnt} {la : Option Addr} {lc : Nat} (h : RingAt w b R) (hx : RefAt w0 w bx R F O H P la lc) (hn : e.ops.length = n) (hl : (n + 2) * 56 ≤ 140737488355328) (ho0 : Os w0 a e.ops) (hw : Below w0.heap.size w0 w) (hb0 : w0.heap.size ≤ b) (hs : e.Small) (hH : H.length < 1000) :
    Calls Try.prog 42 #[.pointer (some ⟨b, 0, none⟩), .pointer (some ⟨bx, 0, none⟩), e.val (.slice a n c)] w fun e' w' => e' = .returned (.bool true) ∧ PlOk w0 b bx F O (H.length + 1) w' := by
  by_cases hm : R.may e = 0
  · exact append1_ok b bx e a c n w h hx (ho0.below hw) hn hl ho0 hw hb0 hs hH hm
  · refine (append1_no b bx e a c n w h hx (ho0.below hw) hn hl hm).mono ?_
    rintro e' w' ⟨rfl, hb⟩
    exact ⟨rfl, R, H, P, la, lc, h.below hb, hx.below hb, Nat.le_succ _, trans2 hw hb⟩
set_option maxHeartbeats 3200000 in
set_option maxRecDepth 100000 in
theorem played_1G {w0 : World} (b bx : Nat) (A : ActT) (a : Option Addr) (c n : Nat) (w : World) {R : RingT} {F : Nat} {O : Int} {H : List EnT} {P : List PEnt} {la : Option Addr} {lc : Nat} (h : RingAt w b R) (hx : RefAt w0 w bx R F O H P la lc) (hn : A.e.ops.length = n) (hl : (n + 2) * 56 ≤ 140737488355328) (ho0 : Os w0 a A.e.ops) (hw : Below w0.heap.size w0 w) (hb0 : w0.heap.size ≤ b) (hs : A.e.Small) (hH : H.length < 1000) (hk : A.kd = 1) :
    Calls Try.prog 24 #[.pointer (some ⟨b, 0, none⟩), .pointer (some ⟨bx, 0, none⟩), A.val (.slice a n c)] w fun e' w' => e' = .returned (.bool true) ∧ PlOk w0 b bx F O (H.length + 1) w' := by
  obtain ⟨kd, N, M, e⟩ := A
  have hk' : kd = 1 := hk
  clear hk
  subst hk'
  have HXF : Hid (∀ w', Below w.heap.size w w' → _) := fun w' hb => rFloor w' bx (hx.below hb)
  have HXL : Hid (∀ w', Below w.heap.size w w' → _) := fun w' hb => rLast w' bx (hx.below hb)
  obtain ⟨L, hL⟩ : ∃ L : Int, ((R.last : Nat) : Int) = L := ⟨_, rfl⟩
  obtain ⟨T, hT⟩ : ∃ T : Int, R.top = T := ⟨_, rfl⟩
  rw [hL, hT] at HXL
  have HNR : Hid (∀ w', _) := fun w' => near_any L T ⟨1, N, M, e⟩ (.slice a n c) w' ⟨_, _, _, rfl⟩
  have HAP : Hid (∀ w' s v, Below w.heap.size w w' → _) := fun w' s v hb => append1G b bx ⟨s, v, e.k, e.se, e.rq, e.ops⟩ a c n w' (h.below hb) (hx.below hb) hn hl ho0 (trans2 hw hb) hb0 ⟨hs.len, hs.each⟩ hH
  clear hL hT hn hs ho0 hw
  clear h hx
  go_enter Try.func24, Try.ntmps24
  go_wp2_with fail
  refine Calls.mono (HXL.out _ ((Below.refl _ _).alloc (Nat.le_refl _) _)) ?_
  rintro e' w1 ⟨rfl, hb1⟩
  have HB1 : Hid (Below w.heap.size w w1) := trans2 ((Below.refl _ _).alloc (Nat.le_refl _) _) hb1
  have HP1 : Hid (w1.heap[w.heap.size]? = some (.cells #[.int .i64 1, .int .i64 N, .int .i64 M, .int .i64 e.s, .int .i64 e.v, .int .i64 e.k, .int .i64 e.se, .int .i64 e.rq, .slice a n c] 55 (0, 0))) := kept_block hb1 (heap_alloc_new _ _)
  clear hb1
  go_wp2_with fail
  refine Calls.mono (HXF.out _ HB1.out) ?_
  rintro e' w2 ⟨rfl, hb2⟩
  have HB2 : Hid (Below w.heap.size w w2) := trans2 HB1.out hb2
  have HP2 : Hid (w2.heap[w.heap.size]? = some (.cells #[.int .i64 1, .int .i64 N, .int .i64 M, .int .i64 e.s, .int .i64 e.v, .int .i64 e.k, .int .i64 e.se, .int .i64 e.rq, .slice a n c] 55 (0, 0))) := kept_block hb2 HP1.out
  obtain ⟨t0, t1, t2, t3, t4, t5, t6, t7, t8⟩ := cells_9 HP2.out
  clear hb2 HP1
  go_wp2_with fail
  refine Calls.mono (HNR.out _) ?_
  rintro e' w3 ⟨s, v, rfl, hb⟩
  have HB3 : Hid (Below w.heap.size w w3) := trans2 HB2.out hb
  clear hb
  go_wp2_with fail
  refine Calls.mono (HAP.out _ s v (HB3.out.alloc HB3.out.size _)) ?_
  rintro e' w4 ⟨rfl, hp⟩
  have HP4 : Hid (PlOk w0 b bx F O (H.length + 1) w4) := hp
  clear hp
  go_wp2_with fail
  go_ret
  exact ⟨rfl, HP4.out⟩
set_option maxHeartbeats 3200000 in
set_option maxRecDepth 100000 in
theorem played_2G {w0 : World} (b bx : Nat) (A : ActT) (a : Option Addr) (c n : Nat) (w : World) {R : RingT} {F : Nat} {O : Int} {H : List EnT} {P : List PEnt} {la : Option Addr} {lc : Nat} (h : RingAt w b R) (hx : RefAt w0 w bx R F O H P la lc) (hn : A.e.ops.length = n) (hl : (n + 2) * 56 ≤ 140737488355328) (ho0 : Os w0 a A.e.ops) (hw : Below w0.heap.size w0 w) (hb0 : w0.heap.size ≤ b) (hs : A.e.Small) (hH : H.length < 1000) (hk : A.kd = 2) :
    Calls Try.prog 24 #[.pointer (some ⟨b, 0, none⟩), .pointer (some ⟨bx, 0, none⟩), A.val (.slice a n c)] w fun e' w' => e' = .returned (.bool true) ∧ PlOk w0 b bx F O (H.length + 1) w' := by
  obtain ⟨kd, N, M, e⟩ := A
  have hk' : kd = 2 := hk
  clear hk
  subst hk'
  have HXF : Hid (∀ w', Below w.heap.size w w' → _) := fun w' hb => rFloor w' bx (hx.below hb)
  have HXL : Hid (∀ w', Below w.heap.size w w' → _) := fun w' hb => rLast w' bx (hx.below hb)
  have HAP : Hid (∀ w' s v, Below w.heap.size w w' → _) := fun w' s v hb => append1G b bx ⟨s, v, e.k, e.se, e.rq, e.ops⟩ a c n w' (h.below hb) (hx.below hb) hn hl ho0 (trans2 hw hb) hb0 ⟨hs.len, hs.each⟩ hH
  clear hn hs ho0 hw
  clear h hx
  go_enter Try.func24, Try.ntmps24
  go_wp2_with fail
  refine Calls.mono (HXL.out _ ((Below.refl _ _).alloc (Nat.le_refl _) _)) ?_
  rintro e' w1 ⟨rfl, hb1⟩
  have HB1 : Hid (Below w.heap.size w w1) := trans2 ((Below.refl _ _).alloc (Nat.le_refl _) _) hb1
  have HP1 : Hid (w1.heap[w.heap.size]? = some (.cells #[.int .i64 2, .int .i64 N, .int .i64 M, .int .i64 e.s, .int .i64 e.v, .int .i64 e.k, .int .i64 e.se, .int .i64 e.rq, .slice a n c] 55 (0, 0))) := kept_block hb1 (heap_alloc_new _ _)
  clear hb1
  go_wp2_with fail
  refine Calls.mono (HXF.out _ HB1.out) ?_
  rintro e' w2 ⟨rfl, hb2⟩
  have HB2 : Hid (Below w.heap.size w w2) := trans2 HB1.out hb2
  have HP2 : Hid (w2.heap[w.heap.size]? = some (.cells #[.int .i64 2, .int .i64 N, .int .i64 M, .int .i64 e.s, .int .i64 e.v, .int .i64 e.k, .int .i64 e.se, .int .i64 e.rq, .slice a n c] 55 (0, 0))) := kept_block hb2 HP1.out
  obtain ⟨t0, t1, t2, t3, t4, t5, t6, t7, t8⟩ := cells_9 HP2.out
  clear hb2 HP1
  go_wp2_with fail
  refine Calls.mono (HAP.out _ e.s e.v HB2.out) ?_
  rintro e' w3 ⟨rfl, hp⟩
  have HP4 : Hid (PlOk w0 b bx F O (H.length + 1) w3) := hp
  clear hp
  go_wp2_with fail
  go_ret
  exact ⟨rfl, HP4.out⟩
theorem playedG {w0 : World} (b bx : Nat) (A : ActT) (a : Option Addr) (c n : Nat) (w : World) {R : RingT} {F : Nat} {O : Int} {H : List EnT} {P : List PEnt} {la : Option Addr} {lc : Nat} (h : RingAt w b R) (hx : RefAt w0 w bx R F O H P la lc) (hn : A.e.ops.length = n) (hl : (n + 2) * 56 ≤ 140737488355328) (ho0 : Os w0 a A.e.ops) (hw : Below w0.heap.size w0 w) (hb0 : w0.heap.size ≤ b) (hs : A.e.Small) (hH : H.length < 1000) :
    Calls Try.prog 24 #[.pointer (some ⟨b, 0, none⟩), .pointer (some ⟨bx, 0, none⟩), A.val (.slice a n c)] w fun e' w' => e' = .returned (.bool true) ∧ PlOk w0 b bx F O (H.length + 1) w' := by
  have lift : (Calls Try.prog 24 #[.pointer (some ⟨b, 0, none⟩), .pointer (some ⟨bx, 0, none⟩), A.val (.slice a n c)] w fun e' w' => e' = .returned (.bool true) ∧ Below w.heap.size w w') → Calls Try.prog 24 #[.pointer (some ⟨b, 0, none⟩), .pointer (some ⟨bx, 0, none⟩), A.val (.slice a n c)] w fun e' w' => e' = .returned (.bool true) ∧ PlOk w0 b bx F O (H.length + 1) w' := fun hc => by
    refine hc.mono ?_
    rintro e' w' ⟨rfl, hb⟩
    exact ⟨rfl, R, H, P, la, lc, h.below hb, hx.below hb, Nat.le_succ _, trans2 hw hb⟩
  by_cases k1 : A.kd = 1
  · exact played_1G b bx A a c n w h hx hn hl ho0 hw hb0 hs hH k1
  by_cases k2 : A.kd = 2
  · exact played_2G b bx A a c n w h hx hn hl ho0 hw hb0 hs hH k2
  by_cases k3 : A.kd = 3
  · exact played_3G b bx A a c n w h hx hw hb0 k3
  by_cases k4 : A.kd = 4
  · exact played_4G b bx A a c n w h hx hw hb0 k4
  by_cases k5 : A.kd = 5
  · exact played_5G b bx A a c n w h hx hw hb0 k5
  by_cases k6 : A.kd = 6
  · exact played_6G b bx A a c n w h hx hw hb0 k6
  by_cases k7 : A.kd = 7
  · exact lift (played_7G b bx A a c n w h hx k7)
  by_cases k8 : A.kd = 8
  · exact lift (played_8G b bx A a c n w h hx k8)
  by_cases k9 : A.kd = 9
  · exact lift (played_9G b bx A a c n w h hx k9)
  by_cases k10 : A.kd = 10
  · exact lift (played_10G b bx A a c n w h hx k10)
  by_cases k11 : A.kd = 11
  · exact lift (played_11G b bx A a c n w h hx k11)
  by_cases k12 : A.kd = 12
  · exact lift (played_12G b bx A a c n w h hx k12)
  exact lift (played_elseG b bx A a c n w h hx k1 k2 k3 k4 k5 k6 k7 k8 k9 k10 k11 k12)
set_option maxHeartbeats 1600000 in
theorem rNew (w0 : World) (room floor of : Int) (w : World) (hw : w0.heap.size ≤ w.heap.size) :
    Calls Try.prog 26 #[.int .i64 room, .int .i64 floor, .int .i64 of] w fun e w' => ∃ p, e = .returned (.tuple #[.pointer p, .int .i64 (newC room floor of)]) ∧ Below w.heap.size w w' ∧ (newC room floor of ≠ 0 ∧ p = none ∨ newC room floor of = 0 ∧ ∃ bx, p = some ⟨bx, 0, none⟩ ∧ RefAt w0 w' bx (newR room floor of) floor.toNat of [] [] none 0) := by
  by_cases hc : newC room floor of = 0
  · have hh : ¬ (room < 1 ∨ 64 < room) ∧ (0 ≤ floor ∧ floor ≤ 2147483647) ∧ (0 ≤ of ∧ of ≤ 2147483647) := by
      unfold newC at hc
      by_cases h0 : room < 1 ∨ 64 < room
      · rw [if_pos h0] at hc; cases hc
      rw [if_neg h0] at hc
      by_cases h1 : (0 ≤ floor ∧ floor ≤ 2147483647) ∧ (0 ≤ of ∧ of ≤ 2147483647)
      · exact ⟨h0, h1⟩
      rw [if_neg h1] at hc; cases hc
    obtain ⟨h0, ⟨b0, b1⟩, b2, b3⟩ := hh
    have a0 : ¬ room < 1 := fun h => h0 (.inl h)
    have a1 : ¬ 64 < room := fun h => h0 (.inr h)
    have a2 : ¬ floor < 0 := by omega
    have a3 : ¬ 2147483647 < floor := by omega
    have a4 : ¬ of < 0 := by omega
    have a5 : ¬ 2147483647 < of := by omega
    rw [hc]
    have HWS : Hid (w0.heap.size ≤ w.heap.size) := hw
    clear h0 hc hw
    go_enter Try.func26, Try.ntmps26
    go_wp2_with fail
    go_ret2
    have hf : ((floor.toNat : Nat) : Int) = floor := by omega
    have hr : ((room.toNat : Nat) : Int) = room := by omega
    refine ⟨_, rfl, (Below.refl _ _).alloc (Nat.le_refl _) _, w.heap.size, rfl, ⟨?_, rfl, SureAt.nil _ _, ⟨Nat.le_refl _, Nat.le_add_right _ _, by show [] = List.drop (floor.toNat - floor.toNat) []; simp, by show of = vAt of [] (floor.toNat - floor.toNat); rw [Nat.sub_self]; rfl⟩, fun k e hk => by simp at hk, ⟨by show room.toNat ≤ 64; omega, Nat.zero_le _, Nat.le_refl _, Nat.le_refl _, by show floor.toNat + 0 ≤ _; omega, fun e he => (by cases he)⟩, by show 1 ≤ room.toNat; omega, HWS.out, fun e he => (by cases he)⟩⟩
    show _ = some (Obj.cells #[.int .i64 ((room.toNat : Nat) : Int), .int .i64 ((floor.toNat : Nat) : Int), .int .i64 of, .int .i64 ((floor.toNat : Nat) : Int), .slice none 0 0, .int .i64 0] 64 (0, 0))
    rw [hf, hr]
    exact heap_alloc_new _ _
  · have hcase : (room < 1 ∧ newC room floor of = 1) ∨ (1 ≤ room ∧ 64 < room ∧ newC room floor of = 1) ∨ (1 ≤ room ∧ room ≤ 64 ∧ floor < 0 ∧ newC room floor of = 3) ∨ (1 ≤ room ∧ room ≤ 64 ∧ 0 ≤ floor ∧ 2147483647 < floor ∧ newC room floor of = 3) ∨ (1 ≤ room ∧ room ≤ 64 ∧ 0 ≤ floor ∧ floor ≤ 2147483647 ∧ of < 0 ∧ newC room floor of = 3) ∨ (1 ≤ room ∧ room ≤ 64 ∧ 0 ≤ floor ∧ floor ≤ 2147483647 ∧ 0 ≤ of ∧ 2147483647 < of ∧ newC room floor of = 3) := by
      unfold newC at hc ⊢
      by_cases h0 : room < 1
      · rw [if_pos (.inl h0)]; exact .inl ⟨h0, rfl⟩
      by_cases h1 : 64 < room
      · rw [if_pos (.inr h1)]; exact .inr (.inl ⟨by omega, h1, rfl⟩)
      rw [if_neg (by omega)] at hc ⊢
      by_cases h2 : (0 ≤ floor ∧ floor ≤ 2147483647) ∧ (0 ≤ of ∧ of ≤ 2147483647)
      · rw [if_pos h2] at hc; exact absurd rfl hc
      rw [if_neg h2]
      by_cases h3 : floor < 0
      · exact .inr (.inr (.inl ⟨by omega, by omega, h3, rfl⟩))
      by_cases h4 : 2147483647 < floor
      · exact .inr (.inr (.inr (.inl ⟨by omega, by omega, by omega, h4, rfl⟩)))
      by_cases h5 : of < 0
      · exact .inr (.inr (.inr (.inr (.inl ⟨by omega, by omega, by omega, by omega, h5, rfl⟩))))
      exact .inr (.inr (.inr (.inr (.inr ⟨by omega, by omega, by omega, by omega, by omega, by omega, rfl⟩))))
    clear hc
    rcases hcase with ⟨g1, hC⟩ | ⟨g1, g2, hC⟩ | ⟨g1, g2, g3, hC⟩ | ⟨g1, g2, g3, g4, hC⟩ | ⟨g1, g2, g3, g4, g5, hC⟩ | ⟨g1, g2, g3, g4, g5, g6, hC⟩
    all_goals
      rw [hC]
      clear hC
      go_enter Try.func26, Try.ntmps26
      go_wp2_with fail
      go_ret2
      exact ⟨none, rfl, Below.refl _ _, .inl ⟨by decide, rfl⟩⟩

def PlI (w : World) (b bx : Nat) (F : Nat) (O : Int) (q : Nat) (wr : World) : Prop := PlOk w b bx F O q wr
set_option maxHeartbeats 3200000 in
set_option maxRecDepth 100000 in
theorem plays_walk (room floor of : Int) (a : Option Addr) (c : Nat) (l : List PAct) (w : World) (h : Acts w a l) (hsm : ∀ x ∈ l, x.A.e.Small) (hl : l.length ≤ maxLen) :
    Calls Try.prog 8 #[.int .i64 room, .int .i64 floor, .int .i64 of, .slice a l.length c] w fun e' w' => e' = .returned (.bool true) ∧ Below w.heap.size w w' := by
  unfold maxLen at hl
  have HB : Hid _ := begins_any w
  have HAC : Hid (Acts w a l) := h
  have HSM : Hid (∀ x ∈ l, x.A.e.Small) := hsm
  have HN1 : Hid (∀ w', _) := fun w' => new_any room floor of w'
  have HN2 : Hid (∀ w' : World, w.heap.size ≤ w'.heap.size → _) := fun w' hw' => rNew w room floor of w' hw'
  obtain ⟨c1, hc1⟩ : ∃ x, newC room floor of = x := ⟨_, rfl⟩
  rw [hc1] at HN1 HN2
  clear h hsm hc1
  go_enter Try.func8, Try.ntmps8
  go_wp2_with fail
  refine Calls.mono HB.out ?_
  rintro e' w1 ⟨rfl, hb1⟩
  have HB1 : Hid (Below w.heap.size w w1) := hb1
  clear hb1 HB
  go_wp2_with fail
  refine Calls.mono (HN1.out _) ?_
  rintro e' w2 ⟨p1, rfl, hb2, hp1⟩
  have HB2 : Hid (Below w.heap.size w w2) := trans2 HB1.out hb2
  have HP1 : Hid _ := hp1
  clear hb2 hp1
  go_wp2_with fail
  refine Calls.mono (HN2.out _ HB2.out.size) ?_
  rintro e' w3 ⟨p2, rfl, hb3, hp2⟩
  have HB3 : Hid (Below w.heap.size w w3) := trans2 HB2.out hb3
  have hp1 := HP1.out
  by_cases hc1 : c1 = 0
  case neg =>
    have hp1' : p1 = none := by
      rcases hp1 with ⟨_, h⟩ | ⟨h, _⟩
      · exact h
      · exact absurd h hc1
    subst hp1'
    have hc1' : (c1 == 0) = false := by simpa using hc1
    clear hb3 hp1 hp2 HP1
    go_wp2_with fail
    go_ret
    exact ⟨rfl, HB3.out⟩
  subst hc1
  obtain ⟨b, hp, hlo1, hr1⟩ : ∃ b, p1 = some ⟨b, 0, none⟩ ∧ w1.heap.size ≤ b ∧ RingAt w2 b (newR room floor of) := by
    rcases hp1 with ⟨h, _⟩ | ⟨_, h⟩
    · exact absurd rfl h
    · exact h
  subst hp
  obtain ⟨bx, hpx, hrf⟩ : ∃ bx, p2 = some ⟨bx, 0, none⟩ ∧ RefAt w w3 bx (newR room floor of) floor.toNat of [] [] none 0 := by
    rcases hp2 with ⟨h, _⟩ | ⟨_, h⟩
    · exact absurd rfl h
    · exact h
  subst hpx
  have HLO : Hid (w.heap.size ≤ b) := Nat.le_trans HB1.out.size hlo1
  obtain ⟨F, hF⟩ : ∃ F, floor.toNat = F := ⟨_, rfl⟩
  rw [hF] at hrf
  have HI : Hid (PlI w b bx F of 0 w3) := ⟨_, [], [], none, 0, hr1.below hb3, hrf, Nat.le_refl _, HB3.out⟩
  clear hb3 hp1 hp2 hlo1 hr1 hrf HP1 HN1 HN2 hF
  obtain ⟨m, hm⟩ : ∃ m, l.length = m := ⟨_, rfl⟩
  rw [hm] at hl ⊢
  have HM : Hid (l.length = m) := hm
  clear hm
  go_wp2_with fail
  go_loopw [14] (fun i wr => ∃ q : Nat, i = .int .i64 q ∧ q ≤ m ∧ q ≤ 120 ∧ Hid (PlI w b bx F of q wr)) (fun i _ => m - (intOf i).toNat)
  case atStart => exact ⟨0, rfl, Nat.zero_le _, Nat.zero_le _, HI⟩
  case round =>
    obtain ⟨q, rfl, hq, hq120, HT⟩ := hrel
    obtain ⟨R, H, P, la, lc, hr, hf, hh, hb⟩ := HT.out
    have HR : Hid (RingAt wr b R) := hr
    have HF : Hid (RefAt w wr bx R F of H P la lc) := hf
    have HB : Hid (Below w.heap.size w wr) := hb
    have HHL : Hid (H.length ≤ q) := hh
    clear hr hf hh hb
    by_cases hlt : q < m ∧ q < 120
    · obtain ⟨hlt, h40⟩ := hlt
      have hlt' : (q : Int) < (m : Int) := by omega
      have h40' : (q : Int) < 120 := by omega
      obtain ⟨x, hx⟩ : ∃ x, l[q]? = some x := ⟨l[q]'(by rw [HM.out]; exact hlt), List.getElem?_eq_getElem _⟩
      obtain ⟨bb, oo, rfl, hbb, x0, x1, x2, x3, x4, x5, x6, x7, x8⟩ := (HAC.out.below HB.out).at hx
      have HXM : Hid (x ∈ l) := List.mem_of_getElem? hx
      have HPD : Hid _ := playedG (w0 := w) b bx x.A x.a x.c x.A.e.ops.length wr HR.out HF.out rfl (HAC.out.ops x HXM.out).2 (HAC.out.ops x HXM.out).1 HB.out HLO.out (HSM.out x HXM.out) (by have := HHL.out; omega)
      clear hx hbb
      go_wp2_with fail
      refine Calls.mono HPD.out ?_
      rintro e' w4 ⟨rfl, R4, H4, P4, la4, lc4, hr4, hf4, hh4, hb4⟩
      have HPL : Hid (RingAt w4 b R4 ∧ RefAt w w4 bx R4 F of H4 P4 la4 lc4 ∧ H4.length ≤ q + 1 ∧ Below w.heap.size w w4) := ⟨hr4, hf4, by have := HHL.out; omega, hb4⟩
      have HSD : Hid (∀ w', Below w4.heap.size w4 w' → _) := fun w' hb => standsG b bx w' (hr4.below hb) (hf4.below hb)
      clear x0 x1 x2 x3 x4 x5 x6 x7 x8 HPD hr4 hf4 hh4 hb4
      go_wp2_with fail
      refine Calls.mono (HSD.out _ (by first | exact Below.refl _ _ | exact below_drewN (Below.refl _ _) _ | exact below_drew (Below.refl _ _))) ?_
      rintro e' w5 ⟨rfl, hb5⟩
      have HI5 : Hid (PlI w b bx F of (q + 1) w5) := (by
        have hbb : Below w4.heap.size w4 w5 := (by first | exact hb5 | exact trans2 (below_drewN (Below.refl _ _) _) hb5 | exact trans2 (below_drew (Below.refl _ _)) hb5)
        exact ⟨R4, H4, P4, la4, lc4, HPL.out.1.below hbb, HPL.out.2.1.below hbb, HPL.out.2.2.1, trans2 HPL.out.2.2.2 hbb⟩)
      clear hb5
      go_wp2_with fail
      go_roundw
      case rel => exact ⟨q + 1, by go_num, by omega, by omega, HI5⟩
      case measure => simp [intOf]; omega
    · have hor : ¬ q < m ∨ (q < m ∧ ¬ q < 120) := by omega
      have HSD : Hid _ := standsG b bx wr HR.out HF.out
      rcases hor with h1 | ⟨h1, h2⟩
      · have h1' : ¬ (q : Int) < (m : Int) := by omega
        go_wp2_with fail
        refine Calls.mono HSD.out ?_
        rintro e' w5 ⟨rfl, hb5⟩
        have HB5 : Hid (Below w.heap.size w w5) := trans2 HB.out hb5
        clear hb5
        go_wp2_with fail
        go_ret
        exact ⟨rfl, HB5.out⟩
      · have h1' : (q : Int) < (m : Int) := by omega
        have h2' : ¬ (q : Int) < 120 := by omega
        go_wp2_with fail
        refine Calls.mono HSD.out ?_
        rintro e' w5 ⟨rfl, hb5⟩
        have HB5 : Hid (Below w.heap.size w w5) := trans2 HB.out hb5
        clear hb5
        go_wp2_with fail
        go_ret
        exact ⟨rfl, HB5.out⟩
end Go.Proofs.Ytonppfnjeomcoaa
