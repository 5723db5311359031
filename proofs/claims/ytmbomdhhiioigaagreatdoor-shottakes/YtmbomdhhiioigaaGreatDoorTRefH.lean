/-
  tree: the document's Part.
-/
import Derived.Test.YtmbomdhhiioigaaGreatDoorTRefI
import Derived.Test.YtmbomdhhiioigaaGreatDoorKGrow
import Derived.Test.YtmbomdhhiioigaaGreatDoorTPartL
namespace Go.Proofs.YtmbomdhhiioigaaGreatDoor
open Go.RowKit Go.Maps Go.WideShapes
set_option linter.unusedVariables false
set_option linter.unusedSimpArgs false
attribute [local go_sem ↓] Go.wp_at_zero Go.wp_at_succ

theorem child_kid (p x : ByteArray) : childB p x = kidB x p := by
  unfold childB kidB parC parB
  obtain ⟨c, xs⟩ := parse x
  cases xs with
  | nil => by_cases hc : c = 0 <;> simp [hc]
  | cons y r =>
    by_cases hc : c = 0
    · subst hc
      simp only [if_pos]
      by_cases h : placeB (List.take ((y :: r).length - 1) (y :: r)) = p
      · subst h; simp
      · have h' : ¬ (placeB (List.take ((y :: r).length - 1) (y :: r))).toList = p.toList := fun e => h (by
          rw [ByteArray.toList_eq, ByteArray.toList_eq] at e
          exact ByteArray.ext (Array.ext' e))
        simp at h h'
        simp [h, h']
    · simp [hc]
theorem cov_val {k : Int} {p x : ByteArray} {e d b : Bool} (hp : isP p = true) (hx : isP x = true) (he : eqB x p = e) (hd : kidB x p = d) (hb : belB p x = b) : covers k p 1 x = cov k 1 e d b := by
  unfold covers
  rw [hp, hx, he, child_kid, hd, hb]
  rfl
theorem parT_snoc {T : List Nd} {q : Nat} {x : Nd} (k : Int) (p : ByteArray) (hx : T[q]? = some x) : parT (T.take (q + 1)) k p = parT (T.take q) k p ++ (if covers k p 1 x.p = true then [snN k x] else []) := by
  unfold parT
  rw [List.take_add_one, hx, List.filter_append, List.map_append]
  by_cases h : covers k p 1 x.p = true
  · simp [h]
  · simp [h]
abbrev PartE (w : World) (L : List SnT) (e : Ending) (w' : World) : Prop := ∃ v, e = .returned (.tuple #[v, .int .i64 0]) ∧ w'.ownsRow w.heap.size 92 3 v L.length (L.flatMap SnT.cs) ∧ Below w.heap.size w w'

set_option maxHeartbeats 4000000 in
set_option maxRecDepth 100000 in
theorem refPart_bad (a : Option Addr) (n c : Nat) (p : ByteArray) (k : Int) (w : World) (hn : 0 < n) (hp : isP p = false) :
    Calls Tryz.prog 19 #[rtV a n c, .string p, .int .i64 k] w fun e w' => e = .returned (.tuple #[.slice none 0 0, .int .i64 10]) ∧ Below w.heap.size w w' := by
  have HIS : Hid (∀ W, Calls Tryz.prog 18 #[.string p] W fun e w' => e = .returned (.bool false) ∧ Below W.heap.size W w') := fun W => by have := refIs_any p W; rw [hp] at this; exact this
  have hn0 : ((n : Int) == 0) = false := by have : ¬ (n : Int) = 0 := by omega
                                            simpa using this
  clear hp
  go_enter Tryz.func19, Tryz.ntmps19
  go_upto_region 1 with fail
  obtain ⟨w1, hw1⟩ : ∃ y, w.alloc (.cells #[.slice a n c] 26) = y := ⟨_, rfl⟩
  obtain ⟨tb, htb⟩ : ∃ y, w.heap.size = y := ⟨_, rfl⟩
  have HB1 : Hid (Below w.heap.size w w1) := by rw [← hw1]; exact (Below.refl _ _).alloc (Nat.le_refl _) _
  have HX1 : Hid (w1.heap[tb]? = some (.cells #[.slice a n c] 26 (0, 0))) := by rw [← hw1, ← htb]; exact heap_alloc_new _ _
  have HTB : Hid (w.heap.size = tb) := htb
  rw [hw1, htb]
  clear hw1 htb
  have t0 := cells_1 HX1.out
  go_wp2_with fail
  refine Calls.mono (HIS.out _) ?_
  rintro e w2 ⟨rfl, hb2⟩
  have HB2 : Hid (Below w.heap.size w w2) := trans2 HB1.out hb2
  clear hb2
  go_wp2_with fail
  go_ret2
  exact ⟨rfl, HB2.out⟩
set_option maxHeartbeats 4000000 in
set_option maxRecDepth 100000 in
theorem refPart_arg (a : Option Addr) (n c : Nat) (p : ByteArray) (k : Int) (w : World) (hn : 0 < n) (hp : isP p = true) (hk : k < 1 ∨ 3 < k) :
    Calls Tryz.prog 19 #[rtV a n c, .string p, .int .i64 k] w fun e w' => e = .returned (.tuple #[.slice none 0 0, .int .i64 1]) ∧ Below w.heap.size w w' := by
  have HIS : Hid (∀ W, Calls Tryz.prog 18 #[.string p] W fun e w' => e = .returned (.bool true) ∧ Below W.heap.size W w') := fun W => by have := refIs_any p W; rw [hp] at this; exact this
  have hn0 : ((n : Int) == 0) = false := by have : ¬ (n : Int) = 0 := by omega
                                            simpa using this
  clear hp
  have hk' : k < 1 ∨ (¬ k < 1 ∧ 3 < k) := by omega
  clear hk
  rcases hk' with hk | ⟨hk, hk3⟩
  · go_enter Tryz.func19, Tryz.ntmps19
    go_upto_region 1 with fail
    obtain ⟨w1, hw1⟩ : ∃ y, w.alloc (.cells #[.slice a n c] 26) = y := ⟨_, rfl⟩
    obtain ⟨tb, htb⟩ : ∃ y, w.heap.size = y := ⟨_, rfl⟩
    have HB1 : Hid (Below w.heap.size w w1) := by rw [← hw1]; exact (Below.refl _ _).alloc (Nat.le_refl _) _
    have HX1 : Hid (w1.heap[tb]? = some (.cells #[.slice a n c] 26 (0, 0))) := by rw [← hw1, ← htb]; exact heap_alloc_new _ _
    have HTB : Hid (w.heap.size = tb) := htb
    rw [hw1, htb]
    clear hw1 htb
    have t0 := cells_1 HX1.out
    go_wp2_with fail
    refine Calls.mono (HIS.out _) ?_
    rintro e w2 ⟨rfl, hb2⟩
    have HB2 : Hid (Below w.heap.size w w2) := trans2 HB1.out hb2
    clear hb2
    go_wp2_with fail
    go_ret2
    exact ⟨rfl, HB2.out⟩
  · go_enter Tryz.func19, Tryz.ntmps19
    go_upto_region 1 with fail
    obtain ⟨w1, hw1⟩ : ∃ y, w.alloc (.cells #[.slice a n c] 26) = y := ⟨_, rfl⟩
    obtain ⟨tb, htb⟩ : ∃ y, w.heap.size = y := ⟨_, rfl⟩
    have HB1 : Hid (Below w.heap.size w w1) := by rw [← hw1]; exact (Below.refl _ _).alloc (Nat.le_refl _) _
    have HX1 : Hid (w1.heap[tb]? = some (.cells #[.slice a n c] 26 (0, 0))) := by rw [← hw1, ← htb]; exact heap_alloc_new _ _
    have HTB : Hid (w.heap.size = tb) := htb
    rw [hw1, htb]
    clear hw1 htb
    have t0 := cells_1 HX1.out
    go_wp2_with fail
    refine Calls.mono (HIS.out _) ?_
    rintro e w2 ⟨rfl, hb2⟩
    have HB2 : Hid (Below w.heap.size w w2) := trans2 HB1.out hb2
    clear hb2
    go_wp2_with fail
    go_ret2
    exact ⟨rfl, HB2.out⟩

set_option maxHeartbeats 4000000 in
set_option maxRecDepth 100000 in
theorem refPart_gone (a : Option Addr) (c : Nat) (T : List Nd) (p : ByteArray) (k : Int) (w : World) (h : NdsAt w a T) (hT : T.length ≤ 64) (hp : isP p = true) (hk : 1 ≤ k ∧ k ≤ 3) (hf : fndI T p < 0) (h0 : 0 < T.length) :
    Calls Tryz.prog 19 #[rtV a T.length c, .string p, .int .i64 k] w (PartE w []) := by
  have HIS : Hid (∀ W, Calls Tryz.prog 18 #[.string p] W fun e w' => e = .returned (.bool true) ∧ Below W.heap.size W w') := fun W => by have := refIs_any p W; rw [hp] at this; exact this
  have HF : Hid (∀ W, Below w.heap.size w W → Calls Tryz.prog 33 #[.slice a T.length c, .string p] W fun e w' => e = .returned (.int .i64 (fndI T p)) ∧ w' = W) := fun W hb => refFind_any a c T p W (h.below hb) (by omega)
  obtain ⟨fi, hfi⟩ : ∃ fi, fndI T p = fi := ⟨_, rfl⟩
  rw [hfi] at HF hf
  obtain ⟨N, hN⟩ : ∃ N, T.length = N := ⟨_, rfl⟩
  rw [hN] at hT HF h0 ⊢
  have hn0 : ((N : Int) == 0) = false := by have : ¬ (N : Int) = 0 := by omega
                                            simpa using this
  have hk1 : ¬ k < 1 := by omega
  have hk3 : ¬ 3 < k := by omega
  clear h hN hp hfi hk
  go_enter Tryz.func19, Tryz.ntmps19
  go_upto_region 1 with fail
  obtain ⟨w1, hw1⟩ : ∃ y, w.alloc (.cells #[.slice a N c] 26) = y := ⟨_, rfl⟩
  obtain ⟨tb, htb⟩ : ∃ y, w.heap.size = y := ⟨_, rfl⟩
  have HB1 : Hid (Below w.heap.size w w1) := by rw [← hw1]; exact (Below.refl _ _).alloc (Nat.le_refl _) _
  have HX1 : Hid (w1.heap[tb]? = some (.cells #[.slice a N c] 26 (0, 0))) := by rw [← hw1, ← htb]; exact heap_alloc_new _ _
  rw [hw1, htb]
  clear hw1 htb
  have t0 := cells_1 HX1.out
  go_wp2_with fail
  refine Calls.mono (HIS.out _) ?_
  rintro e w2 ⟨rfl, hb2⟩
  have HX2 : Hid _ := kept_block hb2 HX1.out
  have HB2 : Hid (Below w.heap.size w w2) := trans2 HB1.out hb2
  clear hb2 t0
  have t0 := cells_1 HX2.out
  go_wp2_with fail
  refine Calls.mono (HF.out _ HB2.out) ?_
  rintro e w3 ⟨rfl, hw3⟩
  have hw3 := hw3.symm
  subst hw3
  go_wp2_with fail
  go_ret2
  exact ⟨_, rfl, World.ownsRow_nil _ _ _ _, HB2.out⟩

set_option maxHeartbeats 16000000 in
set_option maxRecDepth 100000 in
theorem refPart_1 (a : Option Addr) (c : Nat) (T : List Nd) (p : ByteArray) (w : World) (h : NdsAt w a T) (hT : T.length ≤ 64) (hp : isP p = true) (hf : 0 ≤ fndI T p) (hi : ∀ x ∈ T, isP x.p = true) (h0 : 0 < T.length) :
    Calls Tryz.prog 19 #[rtV a T.length c, .string p, .int .i64 1] w (PartE w (parT T 1 p)) := by
  obtain ⟨i0, hi0, hz0, hz1, hz2⟩ := info_parts Tryz.infoSe
  have H : Hid (NdsAt w a T) := h
  have HI : Hid (∀ x ∈ T, isP x.p = true) := hi
  have HP : Hid (isP p = true) := hp
  have HIS : Hid (∀ W, Calls Tryz.prog 18 #[.string p] W fun e w' => e = .returned (.bool true) ∧ Below W.heap.size W w') := fun W => by have := refIs_any p W; rw [hp] at this; exact this
  have HF : Hid (∀ W, Below w.heap.size w W → Calls Tryz.prog 33 #[.slice a T.length c, .string p] W fun e w' => e = .returned (.int .i64 (fndI T p)) ∧ w' = W) := fun W hb => refFind_any a c T p W (h.below hb) (by omega)
  obtain ⟨fi, hfi⟩ : ∃ fi, fndI T p = fi := ⟨_, rfl⟩
  rw [hfi] at HF hf
  have hf' : ¬ fi < 0 := by omega
  obtain ⟨N, hN⟩ : ∃ N, T.length = N := ⟨_, rfl⟩
  have HN : Hid (T.length = N) := hN
  rw [hN] at hT HF h0 ⊢
  have hn0 : ((N : Int) == 0) = false := by have : ¬ (N : Int) = 0 := by omega
                                            simpa using this
  clear h hN hp hi hfi hf
  go_enter Tryz.func19, Tryz.ntmps19
  go_upto_region 1 with fail
  obtain ⟨w1, hw1⟩ : ∃ y, w.alloc (.cells #[.slice a N c] 26) = y := ⟨_, rfl⟩
  obtain ⟨tb, htb⟩ : ∃ y, w.heap.size = y := ⟨_, rfl⟩
  have HB1 : Hid (Below w.heap.size w w1) := by rw [← hw1]; exact (Below.refl _ _).alloc (Nat.le_refl _) _
  have HX1 : Hid (w1.heap[tb]? = some (.cells #[.slice a N c] 26 (0, 0))) := by rw [← hw1, ← htb]; exact heap_alloc_new _ _
  rw [hw1, htb]
  clear hw1 htb
  have t0 := cells_1 HX1.out
  go_wp2_with fail
  refine Calls.mono (HIS.out _) ?_
  rintro e w2 ⟨rfl, hb2⟩
  have HX2 : Hid _ := kept_block hb2 HX1.out
  have HB2 : Hid (Below w.heap.size w w2) := trans2 HB1.out hb2
  clear hb2 t0
  have t0 := cells_1 HX2.out
  go_wp2_with fail
  refine Calls.mono (HF.out _ HB2.out) ?_
  rintro e w3 ⟨rfl, hw3⟩
  have hw3 := hw3.symm
  subst hw3
  go_wp2_with fail
  go_loopw [9, 10] (fun v i wr => ∃ q : Nat, i = .int .i64 q ∧ q ≤ N ∧ Hid (wr.ownsRow w2.heap.size 92 3 v (parT (T.take q) 1 p).length ((parT (T.take q) 1 p).flatMap SnT.cs)) ∧ Hid (Below w2.heap.size w2 wr)) (fun _ i _ => N - (intOf i).toNat)
  case atStart => exact ⟨0, rfl, Nat.zero_le _, World.ownsRow_nil _ _ _ _, Below.refl _ _⟩
  case round =>
    obtain ⟨q, rfl, hq, HO, HB⟩ := hrel
    have HXr : Hid _ := kept_block HB.out HX2.out
    clear t0
    have t0 := cells_1 HXr.out
    by_cases hlt : q < N
    · have hlt' : (q : Int) < (N : Int) := by omega
      obtain ⟨x, hx⟩ : ∃ x, T[q]? = some x := ⟨T[q]'(by rw [HN.out]; exact hlt), List.getElem?_eq_getElem _⟩
      have HXP : Hid (isP x.p = true) := HI.out x (List.mem_of_getElem? hx)
      obtain ⟨gb, gf, rfl⟩ := H.out.some hx
      obtain ⟨hgl, x0, x1, x2, x3, x4, x5, x6⟩ := (H.out.below (trans2 HB2.out HB.out)).cells hx
      have HTK : Hid (parT (T.take (q + 1)) 1 p = parT (T.take q) 1 p ++ (if covers 1 p 1 x.p = true then [snN 1 x] else [])) := parT_snoc 1 p hx
      have HLL : Hid ((parT (T.take q) 1 p).length ≤ 64) := by
        show _ ≤ _
        refine Nat.le_trans (parT_len _ _ _) ?_
        rw [List.length_take]
        omega
      obtain ⟨U, hU⟩ : ∃ U, parT (T.take q) 1 p = U := ⟨_, rfl⟩
      rw [hU] at HO HTK HLL
      have hs1 := HB.out.size
      clear hx hU
      obtain ⟨b, hbd⟩ : ∃ b, belB p x.p = b := ⟨_, rfl⟩
      obtain ⟨d, hkd⟩ : ∃ d, kidB x.p p = d := ⟨_, rfl⟩
      have HBD : Hid (belB p x.p = b) := hbd
      have HKD : Hid (kidB x.p p = d) := hkd
      have HBE : Hid (∀ W, Calls Tryz.prog 34 #[.string x.p, .string p] W fun e w' => e = .returned (.bool b) ∧ Below W.heap.size W w') := fun W => by
        have := refBelow_any (text := x.p) (above := p) rfl rfl W
        rw [← hbd]
        exact this
      have HKI : Hid (∀ W, Calls Tryz.prog 35 #[.string x.p, .string p] W fun e w' => e = .returned (.bool d) ∧ Below W.heap.size W w') := fun W => by
        have := refKid_any x.p p W
        rw [hkd] at this
        exact this
      clear hbd hkd
      go_upto_region 15 with fail
      obtain ⟨w4, hw4⟩ : ∃ y, wr.alloc (.cells #[.string x.p, .string x.d, .int .i64 x.v, .int .i64 x.m, .int .i64 x.c, .int .i64 x.o, .int .i64 x.k] 69) = y := ⟨_, rfl⟩
      obtain ⟨nb, hnb⟩ : ∃ y, wr.heap.size = y := ⟨_, rfl⟩
      have hb4 : Below wr.heap.size wr w4 := by rw [← hw4]; exact (Below.refl _ _).alloc (Nat.le_refl _) _
      have HX4 : Hid (w4.heap[nb]? = some (.cells #[.string x.p, .string x.d, .int .i64 x.v, .int .i64 x.m, .int .i64 x.c, .int .i64 x.o, .int .i64 x.k] 69 (0, 0))) := by rw [← hw4, ← hnb]; exact heap_alloc_new _ _
      have HO4 : Hid (w4.ownsRow w2.heap.size 92 3 u9 U.length (U.flatMap SnT.cs)) := owns_chg HO.out (Chg.of_below hb4 (fun _ => False)) (fun _ _ => id)
      have HB4 : Hid (Below w2.heap.size w2 w4) := trans2 HB.out hb4
      rw [hw4, hnb]
      clear hw4 hnb hb4 x0 x1 x2 x3 x4 x5 x6 t0
      obtain ⟨n0, n1, n2, n3, n4, n5, n6⟩ := cells_7 HX4.out
      go_wp2_with fail
      refine Calls.mono (HBE.out _) ?_
      rintro e w5 ⟨rfl, hb5⟩
      have HX5 : Hid _ := kept_block hb5 HX4.out
      have HO5 : Hid (w5.ownsRow w2.heap.size 92 3 u9 U.length (U.flatMap SnT.cs)) := owns_chg HO4.out (Chg.of_below hb5 (fun _ => False)) (fun _ _ => id)
      have HB5 : Hid (Below w2.heap.size w2 w5) := trans2 HB4.out hb5
      clear hb5 n0 n1 n2 n3 n4 n5 n6
      obtain ⟨n0, n1, n2, n3, n4, n5, n6⟩ := cells_7 HX5.out
      go_wp2_with fail
      refine Calls.mono (HKI.out _) ?_
      rintro e w6 ⟨rfl, hb6⟩
      have HX6 : Hid _ := kept_block hb6 HX5.out
      have HO6 : Hid (w6.ownsRow w2.heap.size 92 3 u9 U.length (U.flatMap SnT.cs)) := owns_chg HO5.out (Chg.of_below hb6 (fun _ => False)) (fun _ _ => id)
      have HB6 : Hid (Below w2.heap.size w2 w6) := trans2 HB5.out hb6
      have hs6 := HB6.out.size
      clear hb6 n0 n1 n2 n3 n4 n5 n6
      obtain ⟨n0, n1, n2, n3, n4, n5, n6⟩ := cells_7 HX6.out
      by_cases hE : x.p = p
      · have eE : (x.p.toList == p.toList) = true := by rw [hE]; simp
        clear hE
        cases b with
        | false =>
          cases d with
          | false =>
            have HCV : Hid (covers 1 p 1 x.p = true) := (cov_val HP.out HXP.out (show eqB x.p p = true from eE) HKD.out HBD.out).trans rfl
            go_wp2_with (first
              | (at_builtin; refine wpList_append_lies _ rfl _ _ _ rfl w2.heap.size 92 i0 _ 3 40 Tryz.underlying29 hi0 hz0 hz1 hz2 rfl (by omega) u9 U.length (U.flatMap SnT.cs) rfl (World.ownsRow.alloc HO6.out _) ⟨w6.heap.size, 0, none⟩ 1 1 [.string x.p, .string x.d, .int .i64 x.v] rfl rfl (World.news_of_block (cs := #[.string x.p, .string x.d, .int .i64 x.v]) (t := 92) (fr := (0, 0)) (heap_alloc_new w6 _)) (by simp [Value.oneCell']) (by have := HLL.out; omega) (by have := HLL.out; unfold maxLen; omega) (by have := HLL.out; omega) (by simp; omega) (w6.heap.size + 1) (by simp) ?_
                 intro g4 cap4 w7 hown4 hgrow4 hat4 hlt4
                 have HN4 : Hid (w7.ownsRow w2.heap.size 92 3 (.slice (some ⟨g4, 0, none⟩) (U.length + 1) cap4) (U.length + 1) (U.flatMap SnT.cs ++ [.string x.p, .string x.d, .int .i64 x.v])) := hown4
                 have HB7 : Hid (Below w2.heap.size w2 w7) := HB6.out.trans (((Below.refl _ _).alloc (by omega) _).grown hgrow4 (by simp; omega) (fun j hj => (HO6.out.lt j hj).1))
                 have HX7 : Hid (w7.heap[nb]? = some (.cells #[.string x.p, .string x.d, .int .i64 x.v, .int .i64 x.m, .int .i64 x.c, .int .i64 x.o, .int .i64 x.k] 69 (0, 0))) := by
                   refine (((Chg.alloc w6 _ _).trans (Chg.grown hgrow4)).block nb (Array.getElem?_eq_some_iff.1 HX6.out).1 (fun e9 => ?_)).trans HX6.out
                   obtain ⟨cur9, h9⟩ := owns_kind HO6.out e9
                   rw [HX6.out] at h9
                   simp at h9
                 obtain ⟨m0, m1, m2, m3, m4, m5, m6⟩ := cells_7 HX7.out
                 clear hown4 hgrow4 hat4 hlt4 n0 n1 n2 n3 n4 n5 n6)
              | fail)
            go_roundw
            case rel =>
              refine ⟨q + 1, by go_num, by omega, ?_, HB7.out⟩
              show World.ownsRow _ _ _ _ _ _ _
              rw [HTK.out, if_pos HCV.out, List.flatMap_append, List.length_append]
              have h9 := HN4.out
              simpa [snN, sd, sv] using h9
            case measure => simp [intOf]; omega
          | true =>
            have HCV : Hid (covers 1 p 1 x.p = true) := (cov_val HP.out HXP.out (show eqB x.p p = true from eE) HKD.out HBD.out).trans rfl
            go_wp2_with (first
              | (at_builtin; refine wpList_append_lies _ rfl _ _ _ rfl w2.heap.size 92 i0 _ 3 40 Tryz.underlying29 hi0 hz0 hz1 hz2 rfl (by omega) u9 U.length (U.flatMap SnT.cs) rfl (World.ownsRow.alloc HO6.out _) ⟨w6.heap.size, 0, none⟩ 1 1 [.string x.p, .string x.d, .int .i64 x.v] rfl rfl (World.news_of_block (cs := #[.string x.p, .string x.d, .int .i64 x.v]) (t := 92) (fr := (0, 0)) (heap_alloc_new w6 _)) (by simp [Value.oneCell']) (by have := HLL.out; omega) (by have := HLL.out; unfold maxLen; omega) (by have := HLL.out; omega) (by simp; omega) (w6.heap.size + 1) (by simp) ?_
                 intro g4 cap4 w7 hown4 hgrow4 hat4 hlt4
                 have HN4 : Hid (w7.ownsRow w2.heap.size 92 3 (.slice (some ⟨g4, 0, none⟩) (U.length + 1) cap4) (U.length + 1) (U.flatMap SnT.cs ++ [.string x.p, .string x.d, .int .i64 x.v])) := hown4
                 have HB7 : Hid (Below w2.heap.size w2 w7) := HB6.out.trans (((Below.refl _ _).alloc (by omega) _).grown hgrow4 (by simp; omega) (fun j hj => (HO6.out.lt j hj).1))
                 have HX7 : Hid (w7.heap[nb]? = some (.cells #[.string x.p, .string x.d, .int .i64 x.v, .int .i64 x.m, .int .i64 x.c, .int .i64 x.o, .int .i64 x.k] 69 (0, 0))) := by
                   refine (((Chg.alloc w6 _ _).trans (Chg.grown hgrow4)).block nb (Array.getElem?_eq_some_iff.1 HX6.out).1 (fun e9 => ?_)).trans HX6.out
                   obtain ⟨cur9, h9⟩ := owns_kind HO6.out e9
                   rw [HX6.out] at h9
                   simp at h9
                 obtain ⟨m0, m1, m2, m3, m4, m5, m6⟩ := cells_7 HX7.out
                 clear hown4 hgrow4 hat4 hlt4 n0 n1 n2 n3 n4 n5 n6)
              | fail)
            go_roundw
            case rel =>
              refine ⟨q + 1, by go_num, by omega, ?_, HB7.out⟩
              show World.ownsRow _ _ _ _ _ _ _
              rw [HTK.out, if_pos HCV.out, List.flatMap_append, List.length_append]
              have h9 := HN4.out
              simpa [snN, sd, sv] using h9
            case measure => simp [intOf]; omega
        | true =>
          cases d with
          | false =>
            have HCV : Hid (covers 1 p 1 x.p = true) := (cov_val HP.out HXP.out (show eqB x.p p = true from eE) HKD.out HBD.out).trans rfl
            go_wp2_with (first
              | (at_builtin; refine wpList_append_lies _ rfl _ _ _ rfl w2.heap.size 92 i0 _ 3 40 Tryz.underlying29 hi0 hz0 hz1 hz2 rfl (by omega) u9 U.length (U.flatMap SnT.cs) rfl (World.ownsRow.alloc HO6.out _) ⟨w6.heap.size, 0, none⟩ 1 1 [.string x.p, .string x.d, .int .i64 x.v] rfl rfl (World.news_of_block (cs := #[.string x.p, .string x.d, .int .i64 x.v]) (t := 92) (fr := (0, 0)) (heap_alloc_new w6 _)) (by simp [Value.oneCell']) (by have := HLL.out; omega) (by have := HLL.out; unfold maxLen; omega) (by have := HLL.out; omega) (by simp; omega) (w6.heap.size + 1) (by simp) ?_
                 intro g4 cap4 w7 hown4 hgrow4 hat4 hlt4
                 have HN4 : Hid (w7.ownsRow w2.heap.size 92 3 (.slice (some ⟨g4, 0, none⟩) (U.length + 1) cap4) (U.length + 1) (U.flatMap SnT.cs ++ [.string x.p, .string x.d, .int .i64 x.v])) := hown4
                 have HB7 : Hid (Below w2.heap.size w2 w7) := HB6.out.trans (((Below.refl _ _).alloc (by omega) _).grown hgrow4 (by simp; omega) (fun j hj => (HO6.out.lt j hj).1))
                 have HX7 : Hid (w7.heap[nb]? = some (.cells #[.string x.p, .string x.d, .int .i64 x.v, .int .i64 x.m, .int .i64 x.c, .int .i64 x.o, .int .i64 x.k] 69 (0, 0))) := by
                   refine (((Chg.alloc w6 _ _).trans (Chg.grown hgrow4)).block nb (Array.getElem?_eq_some_iff.1 HX6.out).1 (fun e9 => ?_)).trans HX6.out
                   obtain ⟨cur9, h9⟩ := owns_kind HO6.out e9
                   rw [HX6.out] at h9
                   simp at h9
                 obtain ⟨m0, m1, m2, m3, m4, m5, m6⟩ := cells_7 HX7.out
                 clear hown4 hgrow4 hat4 hlt4 n0 n1 n2 n3 n4 n5 n6)
              | fail)
            go_roundw
            case rel =>
              refine ⟨q + 1, by go_num, by omega, ?_, HB7.out⟩
              show World.ownsRow _ _ _ _ _ _ _
              rw [HTK.out, if_pos HCV.out, List.flatMap_append, List.length_append]
              have h9 := HN4.out
              simpa [snN, sd, sv] using h9
            case measure => simp [intOf]; omega
          | true =>
            have HCV : Hid (covers 1 p 1 x.p = true) := (cov_val HP.out HXP.out (show eqB x.p p = true from eE) HKD.out HBD.out).trans rfl
            go_wp2_with (first
              | (at_builtin; refine wpList_append_lies _ rfl _ _ _ rfl w2.heap.size 92 i0 _ 3 40 Tryz.underlying29 hi0 hz0 hz1 hz2 rfl (by omega) u9 U.length (U.flatMap SnT.cs) rfl (World.ownsRow.alloc HO6.out _) ⟨w6.heap.size, 0, none⟩ 1 1 [.string x.p, .string x.d, .int .i64 x.v] rfl rfl (World.news_of_block (cs := #[.string x.p, .string x.d, .int .i64 x.v]) (t := 92) (fr := (0, 0)) (heap_alloc_new w6 _)) (by simp [Value.oneCell']) (by have := HLL.out; omega) (by have := HLL.out; unfold maxLen; omega) (by have := HLL.out; omega) (by simp; omega) (w6.heap.size + 1) (by simp) ?_
                 intro g4 cap4 w7 hown4 hgrow4 hat4 hlt4
                 have HN4 : Hid (w7.ownsRow w2.heap.size 92 3 (.slice (some ⟨g4, 0, none⟩) (U.length + 1) cap4) (U.length + 1) (U.flatMap SnT.cs ++ [.string x.p, .string x.d, .int .i64 x.v])) := hown4
                 have HB7 : Hid (Below w2.heap.size w2 w7) := HB6.out.trans (((Below.refl _ _).alloc (by omega) _).grown hgrow4 (by simp; omega) (fun j hj => (HO6.out.lt j hj).1))
                 have HX7 : Hid (w7.heap[nb]? = some (.cells #[.string x.p, .string x.d, .int .i64 x.v, .int .i64 x.m, .int .i64 x.c, .int .i64 x.o, .int .i64 x.k] 69 (0, 0))) := by
                   refine (((Chg.alloc w6 _ _).trans (Chg.grown hgrow4)).block nb (Array.getElem?_eq_some_iff.1 HX6.out).1 (fun e9 => ?_)).trans HX6.out
                   obtain ⟨cur9, h9⟩ := owns_kind HO6.out e9
                   rw [HX6.out] at h9
                   simp at h9
                 obtain ⟨m0, m1, m2, m3, m4, m5, m6⟩ := cells_7 HX7.out
                 clear hown4 hgrow4 hat4 hlt4 n0 n1 n2 n3 n4 n5 n6)
              | fail)
            go_roundw
            case rel =>
              refine ⟨q + 1, by go_num, by omega, ?_, HB7.out⟩
              show World.ownsRow _ _ _ _ _ _ _
              rw [HTK.out, if_pos HCV.out, List.flatMap_append, List.length_append]
              have h9 := HN4.out
              simpa [snN, sd, sv] using h9
            case measure => simp [intOf]; omega
      · have eE : (x.p.toList == p.toList) = false := beq_ne hE
        clear hE
        cases b with
        | false =>
          cases d with
          | false =>
            have HCV : Hid (covers 1 p 1 x.p = false) := (cov_val HP.out HXP.out (show eqB x.p p = false from eE) HKD.out HBD.out).trans rfl
            go_wp2_with fail
            go_roundw
            case rel =>
              refine ⟨q + 1, by go_num, by omega, ?_, HB6.out⟩
              show World.ownsRow _ _ _ _ _ _ _
              rw [HTK.out, if_neg (by rw [HCV.out]; simp), List.append_nil]
              exact HO6.out
            case measure => simp [intOf]; omega
          | true =>
            have HCV : Hid (covers 1 p 1 x.p = false) := (cov_val HP.out HXP.out (show eqB x.p p = false from eE) HKD.out HBD.out).trans rfl
            go_wp2_with fail
            go_roundw
            case rel =>
              refine ⟨q + 1, by go_num, by omega, ?_, HB6.out⟩
              show World.ownsRow _ _ _ _ _ _ _
              rw [HTK.out, if_neg (by rw [HCV.out]; simp), List.append_nil]
              exact HO6.out
            case measure => simp [intOf]; omega
        | true =>
          cases d with
          | false =>
            have HCV : Hid (covers 1 p 1 x.p = false) := (cov_val HP.out HXP.out (show eqB x.p p = false from eE) HKD.out HBD.out).trans rfl
            go_wp2_with fail
            go_roundw
            case rel =>
              refine ⟨q + 1, by go_num, by omega, ?_, HB6.out⟩
              show World.ownsRow _ _ _ _ _ _ _
              rw [HTK.out, if_neg (by rw [HCV.out]; simp), List.append_nil]
              exact HO6.out
            case measure => simp [intOf]; omega
          | true =>
            have HCV : Hid (covers 1 p 1 x.p = false) := (cov_val HP.out HXP.out (show eqB x.p p = false from eE) HKD.out HBD.out).trans rfl
            go_wp2_with fail
            go_roundw
            case rel =>
              refine ⟨q + 1, by go_num, by omega, ?_, HB6.out⟩
              show World.ownsRow _ _ _ _ _ _ _
              rw [HTK.out, if_neg (by rw [HCV.out]; simp), List.append_nil]
              exact HO6.out
            case measure => simp [intOf]; omega
    · obtain rfl : q = N := by omega
      have hO := HO.out
      rw [List.take_of_length_le (by rw [HN.out]; exact Nat.le_refl _)] at hO
      have HOF : Hid _ := hO
      clear hO
      go_wp2_with fail
      go_ret2
      exact ⟨_, rfl, ⟨HOF.out.1, HOF.out.2.imp id (fun ⟨g, cap, cur, h1, h2, r⟩ => ⟨g, cap, cur, h1, Nat.le_trans HB2.out.size h2, r⟩)⟩, trans2 HB2.out HB.out⟩

set_option maxHeartbeats 16000000 in
set_option maxRecDepth 100000 in
theorem refPart_2 (a : Option Addr) (c : Nat) (T : List Nd) (p : ByteArray) (w : World) (h : NdsAt w a T) (hT : T.length ≤ 64) (hp : isP p = true) (hf : 0 ≤ fndI T p) (hi : ∀ x ∈ T, isP x.p = true) (h0 : 0 < T.length) :
    Calls Tryz.prog 19 #[rtV a T.length c, .string p, .int .i64 2] w (PartE w (parT T 2 p)) := by
  obtain ⟨i0, hi0, hz0, hz1, hz2⟩ := info_parts Tryz.infoSe
  have H : Hid (NdsAt w a T) := h
  have HI : Hid (∀ x ∈ T, isP x.p = true) := hi
  have HP : Hid (isP p = true) := hp
  have HIS : Hid (∀ W, Calls Tryz.prog 18 #[.string p] W fun e w' => e = .returned (.bool true) ∧ Below W.heap.size W w') := fun W => by have := refIs_any p W; rw [hp] at this; exact this
  have HF : Hid (∀ W, Below w.heap.size w W → Calls Tryz.prog 33 #[.slice a T.length c, .string p] W fun e w' => e = .returned (.int .i64 (fndI T p)) ∧ w' = W) := fun W hb => refFind_any a c T p W (h.below hb) (by omega)
  obtain ⟨fi, hfi⟩ : ∃ fi, fndI T p = fi := ⟨_, rfl⟩
  rw [hfi] at HF hf
  have hf' : ¬ fi < 0 := by omega
  obtain ⟨N, hN⟩ : ∃ N, T.length = N := ⟨_, rfl⟩
  have HN : Hid (T.length = N) := hN
  rw [hN] at hT HF h0 ⊢
  have hn0 : ((N : Int) == 0) = false := by have : ¬ (N : Int) = 0 := by omega
                                            simpa using this
  clear h hN hp hi hfi hf
  go_enter Tryz.func19, Tryz.ntmps19
  go_upto_region 1 with fail
  obtain ⟨w1, hw1⟩ : ∃ y, w.alloc (.cells #[.slice a N c] 26) = y := ⟨_, rfl⟩
  obtain ⟨tb, htb⟩ : ∃ y, w.heap.size = y := ⟨_, rfl⟩
  have HB1 : Hid (Below w.heap.size w w1) := by rw [← hw1]; exact (Below.refl _ _).alloc (Nat.le_refl _) _
  have HX1 : Hid (w1.heap[tb]? = some (.cells #[.slice a N c] 26 (0, 0))) := by rw [← hw1, ← htb]; exact heap_alloc_new _ _
  rw [hw1, htb]
  clear hw1 htb
  have t0 := cells_1 HX1.out
  go_wp2_with fail
  refine Calls.mono (HIS.out _) ?_
  rintro e w2 ⟨rfl, hb2⟩
  have HX2 : Hid _ := kept_block hb2 HX1.out
  have HB2 : Hid (Below w.heap.size w w2) := trans2 HB1.out hb2
  clear hb2 t0
  have t0 := cells_1 HX2.out
  go_wp2_with fail
  refine Calls.mono (HF.out _ HB2.out) ?_
  rintro e w3 ⟨rfl, hw3⟩
  have hw3 := hw3.symm
  subst hw3
  go_wp2_with fail
  go_loopw [9, 10] (fun v i wr => ∃ q : Nat, i = .int .i64 q ∧ q ≤ N ∧ Hid (wr.ownsRow w2.heap.size 92 3 v (parT (T.take q) 2 p).length ((parT (T.take q) 2 p).flatMap SnT.cs)) ∧ Hid (Below w2.heap.size w2 wr)) (fun _ i _ => N - (intOf i).toNat)
  case atStart => exact ⟨0, rfl, Nat.zero_le _, World.ownsRow_nil _ _ _ _, Below.refl _ _⟩
  case round =>
    obtain ⟨q, rfl, hq, HO, HB⟩ := hrel
    have HXr : Hid _ := kept_block HB.out HX2.out
    clear t0
    have t0 := cells_1 HXr.out
    by_cases hlt : q < N
    · have hlt' : (q : Int) < (N : Int) := by omega
      obtain ⟨x, hx⟩ : ∃ x, T[q]? = some x := ⟨T[q]'(by rw [HN.out]; exact hlt), List.getElem?_eq_getElem _⟩
      have HXP : Hid (isP x.p = true) := HI.out x (List.mem_of_getElem? hx)
      obtain ⟨gb, gf, rfl⟩ := H.out.some hx
      obtain ⟨hgl, x0, x1, x2, x3, x4, x5, x6⟩ := (H.out.below (trans2 HB2.out HB.out)).cells hx
      have HTK : Hid (parT (T.take (q + 1)) 2 p = parT (T.take q) 2 p ++ (if covers 2 p 1 x.p = true then [snN 2 x] else [])) := parT_snoc 2 p hx
      have HLL : Hid ((parT (T.take q) 2 p).length ≤ 64) := by
        show _ ≤ _
        refine Nat.le_trans (parT_len _ _ _) ?_
        rw [List.length_take]
        omega
      obtain ⟨U, hU⟩ : ∃ U, parT (T.take q) 2 p = U := ⟨_, rfl⟩
      rw [hU] at HO HTK HLL
      have hs1 := HB.out.size
      clear hx hU
      obtain ⟨b, hbd⟩ : ∃ b, belB p x.p = b := ⟨_, rfl⟩
      obtain ⟨d, hkd⟩ : ∃ d, kidB x.p p = d := ⟨_, rfl⟩
      have HBD : Hid (belB p x.p = b) := hbd
      have HKD : Hid (kidB x.p p = d) := hkd
      have HBE : Hid (∀ W, Calls Tryz.prog 34 #[.string x.p, .string p] W fun e w' => e = .returned (.bool b) ∧ Below W.heap.size W w') := fun W => by
        have := refBelow_any (text := x.p) (above := p) rfl rfl W
        rw [← hbd]
        exact this
      have HKI : Hid (∀ W, Calls Tryz.prog 35 #[.string x.p, .string p] W fun e w' => e = .returned (.bool d) ∧ Below W.heap.size W w') := fun W => by
        have := refKid_any x.p p W
        rw [hkd] at this
        exact this
      clear hbd hkd
      go_upto_region 15 with fail
      obtain ⟨w4, hw4⟩ : ∃ y, wr.alloc (.cells #[.string x.p, .string x.d, .int .i64 x.v, .int .i64 x.m, .int .i64 x.c, .int .i64 x.o, .int .i64 x.k] 69) = y := ⟨_, rfl⟩
      obtain ⟨nb, hnb⟩ : ∃ y, wr.heap.size = y := ⟨_, rfl⟩
      have hb4 : Below wr.heap.size wr w4 := by rw [← hw4]; exact (Below.refl _ _).alloc (Nat.le_refl _) _
      have HX4 : Hid (w4.heap[nb]? = some (.cells #[.string x.p, .string x.d, .int .i64 x.v, .int .i64 x.m, .int .i64 x.c, .int .i64 x.o, .int .i64 x.k] 69 (0, 0))) := by rw [← hw4, ← hnb]; exact heap_alloc_new _ _
      have HO4 : Hid (w4.ownsRow w2.heap.size 92 3 u9 U.length (U.flatMap SnT.cs)) := owns_chg HO.out (Chg.of_below hb4 (fun _ => False)) (fun _ _ => id)
      have HB4 : Hid (Below w2.heap.size w2 w4) := trans2 HB.out hb4
      rw [hw4, hnb]
      clear hw4 hnb hb4 x0 x1 x2 x3 x4 x5 x6 t0
      obtain ⟨n0, n1, n2, n3, n4, n5, n6⟩ := cells_7 HX4.out
      go_wp2_with fail
      refine Calls.mono (HBE.out _) ?_
      rintro e w5 ⟨rfl, hb5⟩
      have HX5 : Hid _ := kept_block hb5 HX4.out
      have HO5 : Hid (w5.ownsRow w2.heap.size 92 3 u9 U.length (U.flatMap SnT.cs)) := owns_chg HO4.out (Chg.of_below hb5 (fun _ => False)) (fun _ _ => id)
      have HB5 : Hid (Below w2.heap.size w2 w5) := trans2 HB4.out hb5
      clear hb5 n0 n1 n2 n3 n4 n5 n6
      obtain ⟨n0, n1, n2, n3, n4, n5, n6⟩ := cells_7 HX5.out
      go_wp2_with fail
      refine Calls.mono (HKI.out _) ?_
      rintro e w6 ⟨rfl, hb6⟩
      have HX6 : Hid _ := kept_block hb6 HX5.out
      have HO6 : Hid (w6.ownsRow w2.heap.size 92 3 u9 U.length (U.flatMap SnT.cs)) := owns_chg HO5.out (Chg.of_below hb6 (fun _ => False)) (fun _ _ => id)
      have HB6 : Hid (Below w2.heap.size w2 w6) := trans2 HB5.out hb6
      have hs6 := HB6.out.size
      clear hb6 n0 n1 n2 n3 n4 n5 n6
      obtain ⟨n0, n1, n2, n3, n4, n5, n6⟩ := cells_7 HX6.out
      by_cases hE : x.p = p
      · have eE : (x.p.toList == p.toList) = true := by rw [hE]; simp
        clear hE
        cases b with
        | false =>
          cases d with
          | false =>
            have HCV : Hid (covers 2 p 1 x.p = true) := (cov_val HP.out HXP.out (show eqB x.p p = true from eE) HKD.out HBD.out).trans rfl
            go_wp2_with (first
              | (at_builtin; refine wpList_append_lies _ rfl _ _ _ rfl w2.heap.size 92 i0 _ 3 40 Tryz.underlying29 hi0 hz0 hz1 hz2 rfl (by omega) u9 U.length (U.flatMap SnT.cs) rfl (World.ownsRow.alloc HO6.out _) ⟨w6.heap.size, 0, none⟩ 1 1 [.string x.p, .string ⟨#[]⟩, .int .i64 0] rfl rfl (World.news_of_block (cs := #[.string x.p, .string ⟨#[]⟩, .int .i64 0]) (t := 92) (fr := (0, 0)) (heap_alloc_new w6 _)) (by simp [Value.oneCell']) (by have := HLL.out; omega) (by have := HLL.out; unfold maxLen; omega) (by have := HLL.out; omega) (by simp; omega) (w6.heap.size + 1) (by simp) ?_
                 intro g4 cap4 w7 hown4 hgrow4 hat4 hlt4
                 have HN4 : Hid (w7.ownsRow w2.heap.size 92 3 (.slice (some ⟨g4, 0, none⟩) (U.length + 1) cap4) (U.length + 1) (U.flatMap SnT.cs ++ [.string x.p, .string ⟨#[]⟩, .int .i64 0])) := hown4
                 have HB7 : Hid (Below w2.heap.size w2 w7) := HB6.out.trans (((Below.refl _ _).alloc (by omega) _).grown hgrow4 (by simp; omega) (fun j hj => (HO6.out.lt j hj).1))
                 have HX7 : Hid (w7.heap[nb]? = some (.cells #[.string x.p, .string x.d, .int .i64 x.v, .int .i64 x.m, .int .i64 x.c, .int .i64 x.o, .int .i64 x.k] 69 (0, 0))) := by
                   refine (((Chg.alloc w6 _ _).trans (Chg.grown hgrow4)).block nb (Array.getElem?_eq_some_iff.1 HX6.out).1 (fun e9 => ?_)).trans HX6.out
                   obtain ⟨cur9, h9⟩ := owns_kind HO6.out e9
                   rw [HX6.out] at h9
                   simp at h9
                 obtain ⟨m0, m1, m2, m3, m4, m5, m6⟩ := cells_7 HX7.out
                 clear hown4 hgrow4 hat4 hlt4 n0 n1 n2 n3 n4 n5 n6)
              | fail)
            go_roundw
            case rel =>
              refine ⟨q + 1, by go_num, by omega, ?_, HB7.out⟩
              show World.ownsRow _ _ _ _ _ _ _
              rw [HTK.out, if_pos HCV.out, List.flatMap_append, List.length_append]
              have h9 := HN4.out
              simpa [snN, sd, sv] using h9
            case measure => simp [intOf]; omega
          | true =>
            have HCV : Hid (covers 2 p 1 x.p = true) := (cov_val HP.out HXP.out (show eqB x.p p = true from eE) HKD.out HBD.out).trans rfl
            go_wp2_with (first
              | (at_builtin; refine wpList_append_lies _ rfl _ _ _ rfl w2.heap.size 92 i0 _ 3 40 Tryz.underlying29 hi0 hz0 hz1 hz2 rfl (by omega) u9 U.length (U.flatMap SnT.cs) rfl (World.ownsRow.alloc HO6.out _) ⟨w6.heap.size, 0, none⟩ 1 1 [.string x.p, .string ⟨#[]⟩, .int .i64 0] rfl rfl (World.news_of_block (cs := #[.string x.p, .string ⟨#[]⟩, .int .i64 0]) (t := 92) (fr := (0, 0)) (heap_alloc_new w6 _)) (by simp [Value.oneCell']) (by have := HLL.out; omega) (by have := HLL.out; unfold maxLen; omega) (by have := HLL.out; omega) (by simp; omega) (w6.heap.size + 1) (by simp) ?_
                 intro g4 cap4 w7 hown4 hgrow4 hat4 hlt4
                 have HN4 : Hid (w7.ownsRow w2.heap.size 92 3 (.slice (some ⟨g4, 0, none⟩) (U.length + 1) cap4) (U.length + 1) (U.flatMap SnT.cs ++ [.string x.p, .string ⟨#[]⟩, .int .i64 0])) := hown4
                 have HB7 : Hid (Below w2.heap.size w2 w7) := HB6.out.trans (((Below.refl _ _).alloc (by omega) _).grown hgrow4 (by simp; omega) (fun j hj => (HO6.out.lt j hj).1))
                 have HX7 : Hid (w7.heap[nb]? = some (.cells #[.string x.p, .string x.d, .int .i64 x.v, .int .i64 x.m, .int .i64 x.c, .int .i64 x.o, .int .i64 x.k] 69 (0, 0))) := by
                   refine (((Chg.alloc w6 _ _).trans (Chg.grown hgrow4)).block nb (Array.getElem?_eq_some_iff.1 HX6.out).1 (fun e9 => ?_)).trans HX6.out
                   obtain ⟨cur9, h9⟩ := owns_kind HO6.out e9
                   rw [HX6.out] at h9
                   simp at h9
                 obtain ⟨m0, m1, m2, m3, m4, m5, m6⟩ := cells_7 HX7.out
                 clear hown4 hgrow4 hat4 hlt4 n0 n1 n2 n3 n4 n5 n6)
              | fail)
            go_roundw
            case rel =>
              refine ⟨q + 1, by go_num, by omega, ?_, HB7.out⟩
              show World.ownsRow _ _ _ _ _ _ _
              rw [HTK.out, if_pos HCV.out, List.flatMap_append, List.length_append]
              have h9 := HN4.out
              simpa [snN, sd, sv] using h9
            case measure => simp [intOf]; omega
        | true =>
          cases d with
          | false =>
            have HCV : Hid (covers 2 p 1 x.p = true) := (cov_val HP.out HXP.out (show eqB x.p p = true from eE) HKD.out HBD.out).trans rfl
            go_wp2_with (first
              | (at_builtin; refine wpList_append_lies _ rfl _ _ _ rfl w2.heap.size 92 i0 _ 3 40 Tryz.underlying29 hi0 hz0 hz1 hz2 rfl (by omega) u9 U.length (U.flatMap SnT.cs) rfl (World.ownsRow.alloc HO6.out _) ⟨w6.heap.size, 0, none⟩ 1 1 [.string x.p, .string ⟨#[]⟩, .int .i64 0] rfl rfl (World.news_of_block (cs := #[.string x.p, .string ⟨#[]⟩, .int .i64 0]) (t := 92) (fr := (0, 0)) (heap_alloc_new w6 _)) (by simp [Value.oneCell']) (by have := HLL.out; omega) (by have := HLL.out; unfold maxLen; omega) (by have := HLL.out; omega) (by simp; omega) (w6.heap.size + 1) (by simp) ?_
                 intro g4 cap4 w7 hown4 hgrow4 hat4 hlt4
                 have HN4 : Hid (w7.ownsRow w2.heap.size 92 3 (.slice (some ⟨g4, 0, none⟩) (U.length + 1) cap4) (U.length + 1) (U.flatMap SnT.cs ++ [.string x.p, .string ⟨#[]⟩, .int .i64 0])) := hown4
                 have HB7 : Hid (Below w2.heap.size w2 w7) := HB6.out.trans (((Below.refl _ _).alloc (by omega) _).grown hgrow4 (by simp; omega) (fun j hj => (HO6.out.lt j hj).1))
                 have HX7 : Hid (w7.heap[nb]? = some (.cells #[.string x.p, .string x.d, .int .i64 x.v, .int .i64 x.m, .int .i64 x.c, .int .i64 x.o, .int .i64 x.k] 69 (0, 0))) := by
                   refine (((Chg.alloc w6 _ _).trans (Chg.grown hgrow4)).block nb (Array.getElem?_eq_some_iff.1 HX6.out).1 (fun e9 => ?_)).trans HX6.out
                   obtain ⟨cur9, h9⟩ := owns_kind HO6.out e9
                   rw [HX6.out] at h9
                   simp at h9
                 obtain ⟨m0, m1, m2, m3, m4, m5, m6⟩ := cells_7 HX7.out
                 clear hown4 hgrow4 hat4 hlt4 n0 n1 n2 n3 n4 n5 n6)
              | fail)
            go_roundw
            case rel =>
              refine ⟨q + 1, by go_num, by omega, ?_, HB7.out⟩
              show World.ownsRow _ _ _ _ _ _ _
              rw [HTK.out, if_pos HCV.out, List.flatMap_append, List.length_append]
              have h9 := HN4.out
              simpa [snN, sd, sv] using h9
            case measure => simp [intOf]; omega
          | true =>
            have HCV : Hid (covers 2 p 1 x.p = true) := (cov_val HP.out HXP.out (show eqB x.p p = true from eE) HKD.out HBD.out).trans rfl
            go_wp2_with (first
              | (at_builtin; refine wpList_append_lies _ rfl _ _ _ rfl w2.heap.size 92 i0 _ 3 40 Tryz.underlying29 hi0 hz0 hz1 hz2 rfl (by omega) u9 U.length (U.flatMap SnT.cs) rfl (World.ownsRow.alloc HO6.out _) ⟨w6.heap.size, 0, none⟩ 1 1 [.string x.p, .string ⟨#[]⟩, .int .i64 0] rfl rfl (World.news_of_block (cs := #[.string x.p, .string ⟨#[]⟩, .int .i64 0]) (t := 92) (fr := (0, 0)) (heap_alloc_new w6 _)) (by simp [Value.oneCell']) (by have := HLL.out; omega) (by have := HLL.out; unfold maxLen; omega) (by have := HLL.out; omega) (by simp; omega) (w6.heap.size + 1) (by simp) ?_
                 intro g4 cap4 w7 hown4 hgrow4 hat4 hlt4
                 have HN4 : Hid (w7.ownsRow w2.heap.size 92 3 (.slice (some ⟨g4, 0, none⟩) (U.length + 1) cap4) (U.length + 1) (U.flatMap SnT.cs ++ [.string x.p, .string ⟨#[]⟩, .int .i64 0])) := hown4
                 have HB7 : Hid (Below w2.heap.size w2 w7) := HB6.out.trans (((Below.refl _ _).alloc (by omega) _).grown hgrow4 (by simp; omega) (fun j hj => (HO6.out.lt j hj).1))
                 have HX7 : Hid (w7.heap[nb]? = some (.cells #[.string x.p, .string x.d, .int .i64 x.v, .int .i64 x.m, .int .i64 x.c, .int .i64 x.o, .int .i64 x.k] 69 (0, 0))) := by
                   refine (((Chg.alloc w6 _ _).trans (Chg.grown hgrow4)).block nb (Array.getElem?_eq_some_iff.1 HX6.out).1 (fun e9 => ?_)).trans HX6.out
                   obtain ⟨cur9, h9⟩ := owns_kind HO6.out e9
                   rw [HX6.out] at h9
                   simp at h9
                 obtain ⟨m0, m1, m2, m3, m4, m5, m6⟩ := cells_7 HX7.out
                 clear hown4 hgrow4 hat4 hlt4 n0 n1 n2 n3 n4 n5 n6)
              | fail)
            go_roundw
            case rel =>
              refine ⟨q + 1, by go_num, by omega, ?_, HB7.out⟩
              show World.ownsRow _ _ _ _ _ _ _
              rw [HTK.out, if_pos HCV.out, List.flatMap_append, List.length_append]
              have h9 := HN4.out
              simpa [snN, sd, sv] using h9
            case measure => simp [intOf]; omega
      · have eE : (x.p.toList == p.toList) = false := beq_ne hE
        clear hE
        cases b with
        | false =>
          cases d with
          | false =>
            have HCV : Hid (covers 2 p 1 x.p = false) := (cov_val HP.out HXP.out (show eqB x.p p = false from eE) HKD.out HBD.out).trans rfl
            go_wp2_with fail
            go_roundw
            case rel =>
              refine ⟨q + 1, by go_num, by omega, ?_, HB6.out⟩
              show World.ownsRow _ _ _ _ _ _ _
              rw [HTK.out, if_neg (by rw [HCV.out]; simp), List.append_nil]
              exact HO6.out
            case measure => simp [intOf]; omega
          | true =>
            have HCV : Hid (covers 2 p 1 x.p = true) := (cov_val HP.out HXP.out (show eqB x.p p = false from eE) HKD.out HBD.out).trans rfl
            go_wp2_with (first
              | (at_builtin; refine wpList_append_lies _ rfl _ _ _ rfl w2.heap.size 92 i0 _ 3 40 Tryz.underlying29 hi0 hz0 hz1 hz2 rfl (by omega) u9 U.length (U.flatMap SnT.cs) rfl (World.ownsRow.alloc HO6.out _) ⟨w6.heap.size, 0, none⟩ 1 1 [.string x.p, .string ⟨#[]⟩, .int .i64 0] rfl rfl (World.news_of_block (cs := #[.string x.p, .string ⟨#[]⟩, .int .i64 0]) (t := 92) (fr := (0, 0)) (heap_alloc_new w6 _)) (by simp [Value.oneCell']) (by have := HLL.out; omega) (by have := HLL.out; unfold maxLen; omega) (by have := HLL.out; omega) (by simp; omega) (w6.heap.size + 1) (by simp) ?_
                 intro g4 cap4 w7 hown4 hgrow4 hat4 hlt4
                 have HN4 : Hid (w7.ownsRow w2.heap.size 92 3 (.slice (some ⟨g4, 0, none⟩) (U.length + 1) cap4) (U.length + 1) (U.flatMap SnT.cs ++ [.string x.p, .string ⟨#[]⟩, .int .i64 0])) := hown4
                 have HB7 : Hid (Below w2.heap.size w2 w7) := HB6.out.trans (((Below.refl _ _).alloc (by omega) _).grown hgrow4 (by simp; omega) (fun j hj => (HO6.out.lt j hj).1))
                 have HX7 : Hid (w7.heap[nb]? = some (.cells #[.string x.p, .string x.d, .int .i64 x.v, .int .i64 x.m, .int .i64 x.c, .int .i64 x.o, .int .i64 x.k] 69 (0, 0))) := by
                   refine (((Chg.alloc w6 _ _).trans (Chg.grown hgrow4)).block nb (Array.getElem?_eq_some_iff.1 HX6.out).1 (fun e9 => ?_)).trans HX6.out
                   obtain ⟨cur9, h9⟩ := owns_kind HO6.out e9
                   rw [HX6.out] at h9
                   simp at h9
                 obtain ⟨m0, m1, m2, m3, m4, m5, m6⟩ := cells_7 HX7.out
                 clear hown4 hgrow4 hat4 hlt4 n0 n1 n2 n3 n4 n5 n6)
              | fail)
            go_roundw
            case rel =>
              refine ⟨q + 1, by go_num, by omega, ?_, HB7.out⟩
              show World.ownsRow _ _ _ _ _ _ _
              rw [HTK.out, if_pos HCV.out, List.flatMap_append, List.length_append]
              have h9 := HN4.out
              simpa [snN, sd, sv] using h9
            case measure => simp [intOf]; omega
        | true =>
          cases d with
          | false =>
            have HCV : Hid (covers 2 p 1 x.p = false) := (cov_val HP.out HXP.out (show eqB x.p p = false from eE) HKD.out HBD.out).trans rfl
            go_wp2_with fail
            go_roundw
            case rel =>
              refine ⟨q + 1, by go_num, by omega, ?_, HB6.out⟩
              show World.ownsRow _ _ _ _ _ _ _
              rw [HTK.out, if_neg (by rw [HCV.out]; simp), List.append_nil]
              exact HO6.out
            case measure => simp [intOf]; omega
          | true =>
            have HCV : Hid (covers 2 p 1 x.p = true) := (cov_val HP.out HXP.out (show eqB x.p p = false from eE) HKD.out HBD.out).trans rfl
            go_wp2_with (first
              | (at_builtin; refine wpList_append_lies _ rfl _ _ _ rfl w2.heap.size 92 i0 _ 3 40 Tryz.underlying29 hi0 hz0 hz1 hz2 rfl (by omega) u9 U.length (U.flatMap SnT.cs) rfl (World.ownsRow.alloc HO6.out _) ⟨w6.heap.size, 0, none⟩ 1 1 [.string x.p, .string ⟨#[]⟩, .int .i64 0] rfl rfl (World.news_of_block (cs := #[.string x.p, .string ⟨#[]⟩, .int .i64 0]) (t := 92) (fr := (0, 0)) (heap_alloc_new w6 _)) (by simp [Value.oneCell']) (by have := HLL.out; omega) (by have := HLL.out; unfold maxLen; omega) (by have := HLL.out; omega) (by simp; omega) (w6.heap.size + 1) (by simp) ?_
                 intro g4 cap4 w7 hown4 hgrow4 hat4 hlt4
                 have HN4 : Hid (w7.ownsRow w2.heap.size 92 3 (.slice (some ⟨g4, 0, none⟩) (U.length + 1) cap4) (U.length + 1) (U.flatMap SnT.cs ++ [.string x.p, .string ⟨#[]⟩, .int .i64 0])) := hown4
                 have HB7 : Hid (Below w2.heap.size w2 w7) := HB6.out.trans (((Below.refl _ _).alloc (by omega) _).grown hgrow4 (by simp; omega) (fun j hj => (HO6.out.lt j hj).1))
                 have HX7 : Hid (w7.heap[nb]? = some (.cells #[.string x.p, .string x.d, .int .i64 x.v, .int .i64 x.m, .int .i64 x.c, .int .i64 x.o, .int .i64 x.k] 69 (0, 0))) := by
                   refine (((Chg.alloc w6 _ _).trans (Chg.grown hgrow4)).block nb (Array.getElem?_eq_some_iff.1 HX6.out).1 (fun e9 => ?_)).trans HX6.out
                   obtain ⟨cur9, h9⟩ := owns_kind HO6.out e9
                   rw [HX6.out] at h9
                   simp at h9
                 obtain ⟨m0, m1, m2, m3, m4, m5, m6⟩ := cells_7 HX7.out
                 clear hown4 hgrow4 hat4 hlt4 n0 n1 n2 n3 n4 n5 n6)
              | fail)
            go_roundw
            case rel =>
              refine ⟨q + 1, by go_num, by omega, ?_, HB7.out⟩
              show World.ownsRow _ _ _ _ _ _ _
              rw [HTK.out, if_pos HCV.out, List.flatMap_append, List.length_append]
              have h9 := HN4.out
              simpa [snN, sd, sv] using h9
            case measure => simp [intOf]; omega
    · obtain rfl : q = N := by omega
      have hO := HO.out
      rw [List.take_of_length_le (by rw [HN.out]; exact Nat.le_refl _)] at hO
      have HOF : Hid _ := hO
      clear hO
      go_wp2_with fail
      go_ret2
      exact ⟨_, rfl, ⟨HOF.out.1, HOF.out.2.imp id (fun ⟨g, cap, cur, h1, h2, r⟩ => ⟨g, cap, cur, h1, Nat.le_trans HB2.out.size h2, r⟩)⟩, trans2 HB2.out HB.out⟩

set_option maxHeartbeats 16000000 in
set_option maxRecDepth 100000 in
theorem refPart_3 (a : Option Addr) (c : Nat) (T : List Nd) (p : ByteArray) (w : World) (h : NdsAt w a T) (hT : T.length ≤ 64) (hp : isP p = true) (hf : 0 ≤ fndI T p) (hi : ∀ x ∈ T, isP x.p = true) (h0 : 0 < T.length) :
    Calls Tryz.prog 19 #[rtV a T.length c, .string p, .int .i64 3] w (PartE w (parT T 3 p)) := by
  obtain ⟨i0, hi0, hz0, hz1, hz2⟩ := info_parts Tryz.infoSe
  have H : Hid (NdsAt w a T) := h
  have HI : Hid (∀ x ∈ T, isP x.p = true) := hi
  have HP : Hid (isP p = true) := hp
  have HIS : Hid (∀ W, Calls Tryz.prog 18 #[.string p] W fun e w' => e = .returned (.bool true) ∧ Below W.heap.size W w') := fun W => by have := refIs_any p W; rw [hp] at this; exact this
  have HF : Hid (∀ W, Below w.heap.size w W → Calls Tryz.prog 33 #[.slice a T.length c, .string p] W fun e w' => e = .returned (.int .i64 (fndI T p)) ∧ w' = W) := fun W hb => refFind_any a c T p W (h.below hb) (by omega)
  obtain ⟨fi, hfi⟩ : ∃ fi, fndI T p = fi := ⟨_, rfl⟩
  rw [hfi] at HF hf
  have hf' : ¬ fi < 0 := by omega
  obtain ⟨N, hN⟩ : ∃ N, T.length = N := ⟨_, rfl⟩
  have HN : Hid (T.length = N) := hN
  rw [hN] at hT HF h0 ⊢
  have hn0 : ((N : Int) == 0) = false := by have : ¬ (N : Int) = 0 := by omega
                                            simpa using this
  clear h hN hp hi hfi hf
  go_enter Tryz.func19, Tryz.ntmps19
  go_upto_region 1 with fail
  obtain ⟨w1, hw1⟩ : ∃ y, w.alloc (.cells #[.slice a N c] 26) = y := ⟨_, rfl⟩
  obtain ⟨tb, htb⟩ : ∃ y, w.heap.size = y := ⟨_, rfl⟩
  have HB1 : Hid (Below w.heap.size w w1) := by rw [← hw1]; exact (Below.refl _ _).alloc (Nat.le_refl _) _
  have HX1 : Hid (w1.heap[tb]? = some (.cells #[.slice a N c] 26 (0, 0))) := by rw [← hw1, ← htb]; exact heap_alloc_new _ _
  rw [hw1, htb]
  clear hw1 htb
  have t0 := cells_1 HX1.out
  go_wp2_with fail
  refine Calls.mono (HIS.out _) ?_
  rintro e w2 ⟨rfl, hb2⟩
  have HX2 : Hid _ := kept_block hb2 HX1.out
  have HB2 : Hid (Below w.heap.size w w2) := trans2 HB1.out hb2
  clear hb2 t0
  have t0 := cells_1 HX2.out
  go_wp2_with fail
  refine Calls.mono (HF.out _ HB2.out) ?_
  rintro e w3 ⟨rfl, hw3⟩
  have hw3 := hw3.symm
  subst hw3
  go_wp2_with fail
  go_loopw [9, 10] (fun v i wr => ∃ q : Nat, i = .int .i64 q ∧ q ≤ N ∧ Hid (wr.ownsRow w2.heap.size 92 3 v (parT (T.take q) 3 p).length ((parT (T.take q) 3 p).flatMap SnT.cs)) ∧ Hid (Below w2.heap.size w2 wr)) (fun _ i _ => N - (intOf i).toNat)
  case atStart => exact ⟨0, rfl, Nat.zero_le _, World.ownsRow_nil _ _ _ _, Below.refl _ _⟩
  case round =>
    obtain ⟨q, rfl, hq, HO, HB⟩ := hrel
    have HXr : Hid _ := kept_block HB.out HX2.out
    clear t0
    have t0 := cells_1 HXr.out
    by_cases hlt : q < N
    · have hlt' : (q : Int) < (N : Int) := by omega
      obtain ⟨x, hx⟩ : ∃ x, T[q]? = some x := ⟨T[q]'(by rw [HN.out]; exact hlt), List.getElem?_eq_getElem _⟩
      have HXP : Hid (isP x.p = true) := HI.out x (List.mem_of_getElem? hx)
      obtain ⟨gb, gf, rfl⟩ := H.out.some hx
      obtain ⟨hgl, x0, x1, x2, x3, x4, x5, x6⟩ := (H.out.below (trans2 HB2.out HB.out)).cells hx
      have HTK : Hid (parT (T.take (q + 1)) 3 p = parT (T.take q) 3 p ++ (if covers 3 p 1 x.p = true then [snN 3 x] else [])) := parT_snoc 3 p hx
      have HLL : Hid ((parT (T.take q) 3 p).length ≤ 64) := by
        show _ ≤ _
        refine Nat.le_trans (parT_len _ _ _) ?_
        rw [List.length_take]
        omega
      obtain ⟨U, hU⟩ : ∃ U, parT (T.take q) 3 p = U := ⟨_, rfl⟩
      rw [hU] at HO HTK HLL
      have hs1 := HB.out.size
      clear hx hU
      obtain ⟨b, hbd⟩ : ∃ b, belB p x.p = b := ⟨_, rfl⟩
      obtain ⟨d, hkd⟩ : ∃ d, kidB x.p p = d := ⟨_, rfl⟩
      have HBD : Hid (belB p x.p = b) := hbd
      have HKD : Hid (kidB x.p p = d) := hkd
      have HBE : Hid (∀ W, Calls Tryz.prog 34 #[.string x.p, .string p] W fun e w' => e = .returned (.bool b) ∧ Below W.heap.size W w') := fun W => by
        have := refBelow_any (text := x.p) (above := p) rfl rfl W
        rw [← hbd]
        exact this
      have HKI : Hid (∀ W, Calls Tryz.prog 35 #[.string x.p, .string p] W fun e w' => e = .returned (.bool d) ∧ Below W.heap.size W w') := fun W => by
        have := refKid_any x.p p W
        rw [hkd] at this
        exact this
      clear hbd hkd
      go_upto_region 15 with fail
      obtain ⟨w4, hw4⟩ : ∃ y, wr.alloc (.cells #[.string x.p, .string x.d, .int .i64 x.v, .int .i64 x.m, .int .i64 x.c, .int .i64 x.o, .int .i64 x.k] 69) = y := ⟨_, rfl⟩
      obtain ⟨nb, hnb⟩ : ∃ y, wr.heap.size = y := ⟨_, rfl⟩
      have hb4 : Below wr.heap.size wr w4 := by rw [← hw4]; exact (Below.refl _ _).alloc (Nat.le_refl _) _
      have HX4 : Hid (w4.heap[nb]? = some (.cells #[.string x.p, .string x.d, .int .i64 x.v, .int .i64 x.m, .int .i64 x.c, .int .i64 x.o, .int .i64 x.k] 69 (0, 0))) := by rw [← hw4, ← hnb]; exact heap_alloc_new _ _
      have HO4 : Hid (w4.ownsRow w2.heap.size 92 3 u9 U.length (U.flatMap SnT.cs)) := owns_chg HO.out (Chg.of_below hb4 (fun _ => False)) (fun _ _ => id)
      have HB4 : Hid (Below w2.heap.size w2 w4) := trans2 HB.out hb4
      rw [hw4, hnb]
      clear hw4 hnb hb4 x0 x1 x2 x3 x4 x5 x6 t0
      obtain ⟨n0, n1, n2, n3, n4, n5, n6⟩ := cells_7 HX4.out
      go_wp2_with fail
      refine Calls.mono (HBE.out _) ?_
      rintro e w5 ⟨rfl, hb5⟩
      have HX5 : Hid _ := kept_block hb5 HX4.out
      have HO5 : Hid (w5.ownsRow w2.heap.size 92 3 u9 U.length (U.flatMap SnT.cs)) := owns_chg HO4.out (Chg.of_below hb5 (fun _ => False)) (fun _ _ => id)
      have HB5 : Hid (Below w2.heap.size w2 w5) := trans2 HB4.out hb5
      clear hb5 n0 n1 n2 n3 n4 n5 n6
      obtain ⟨n0, n1, n2, n3, n4, n5, n6⟩ := cells_7 HX5.out
      go_wp2_with fail
      refine Calls.mono (HKI.out _) ?_
      rintro e w6 ⟨rfl, hb6⟩
      have HX6 : Hid _ := kept_block hb6 HX5.out
      have HO6 : Hid (w6.ownsRow w2.heap.size 92 3 u9 U.length (U.flatMap SnT.cs)) := owns_chg HO5.out (Chg.of_below hb6 (fun _ => False)) (fun _ _ => id)
      have HB6 : Hid (Below w2.heap.size w2 w6) := trans2 HB5.out hb6
      have hs6 := HB6.out.size
      clear hb6 n0 n1 n2 n3 n4 n5 n6
      obtain ⟨n0, n1, n2, n3, n4, n5, n6⟩ := cells_7 HX6.out
      by_cases hE : x.p = p
      · have eE : (x.p.toList == p.toList) = true := by rw [hE]; simp
        clear hE
        cases b with
        | false =>
          cases d with
          | false =>
            have HCV : Hid (covers 3 p 1 x.p = true) := (cov_val HP.out HXP.out (show eqB x.p p = true from eE) HKD.out HBD.out).trans rfl
            go_wp2_with (first
              | (at_builtin; refine wpList_append_lies _ rfl _ _ _ rfl w2.heap.size 92 i0 _ 3 40 Tryz.underlying29 hi0 hz0 hz1 hz2 rfl (by omega) u9 U.length (U.flatMap SnT.cs) rfl (World.ownsRow.alloc HO6.out _) ⟨w6.heap.size, 0, none⟩ 1 1 [.string x.p, .string x.d, .int .i64 x.v] rfl rfl (World.news_of_block (cs := #[.string x.p, .string x.d, .int .i64 x.v]) (t := 92) (fr := (0, 0)) (heap_alloc_new w6 _)) (by simp [Value.oneCell']) (by have := HLL.out; omega) (by have := HLL.out; unfold maxLen; omega) (by have := HLL.out; omega) (by simp; omega) (w6.heap.size + 1) (by simp) ?_
                 intro g4 cap4 w7 hown4 hgrow4 hat4 hlt4
                 have HN4 : Hid (w7.ownsRow w2.heap.size 92 3 (.slice (some ⟨g4, 0, none⟩) (U.length + 1) cap4) (U.length + 1) (U.flatMap SnT.cs ++ [.string x.p, .string x.d, .int .i64 x.v])) := hown4
                 have HB7 : Hid (Below w2.heap.size w2 w7) := HB6.out.trans (((Below.refl _ _).alloc (by omega) _).grown hgrow4 (by simp; omega) (fun j hj => (HO6.out.lt j hj).1))
                 have HX7 : Hid (w7.heap[nb]? = some (.cells #[.string x.p, .string x.d, .int .i64 x.v, .int .i64 x.m, .int .i64 x.c, .int .i64 x.o, .int .i64 x.k] 69 (0, 0))) := by
                   refine (((Chg.alloc w6 _ _).trans (Chg.grown hgrow4)).block nb (Array.getElem?_eq_some_iff.1 HX6.out).1 (fun e9 => ?_)).trans HX6.out
                   obtain ⟨cur9, h9⟩ := owns_kind HO6.out e9
                   rw [HX6.out] at h9
                   simp at h9
                 obtain ⟨m0, m1, m2, m3, m4, m5, m6⟩ := cells_7 HX7.out
                 clear hown4 hgrow4 hat4 hlt4 n0 n1 n2 n3 n4 n5 n6)
              | fail)
            go_roundw
            case rel =>
              refine ⟨q + 1, by go_num, by omega, ?_, HB7.out⟩
              show World.ownsRow _ _ _ _ _ _ _
              rw [HTK.out, if_pos HCV.out, List.flatMap_append, List.length_append]
              have h9 := HN4.out
              simpa [snN, sd, sv] using h9
            case measure => simp [intOf]; omega
          | true =>
            have HCV : Hid (covers 3 p 1 x.p = true) := (cov_val HP.out HXP.out (show eqB x.p p = true from eE) HKD.out HBD.out).trans rfl
            go_wp2_with (first
              | (at_builtin; refine wpList_append_lies _ rfl _ _ _ rfl w2.heap.size 92 i0 _ 3 40 Tryz.underlying29 hi0 hz0 hz1 hz2 rfl (by omega) u9 U.length (U.flatMap SnT.cs) rfl (World.ownsRow.alloc HO6.out _) ⟨w6.heap.size, 0, none⟩ 1 1 [.string x.p, .string x.d, .int .i64 x.v] rfl rfl (World.news_of_block (cs := #[.string x.p, .string x.d, .int .i64 x.v]) (t := 92) (fr := (0, 0)) (heap_alloc_new w6 _)) (by simp [Value.oneCell']) (by have := HLL.out; omega) (by have := HLL.out; unfold maxLen; omega) (by have := HLL.out; omega) (by simp; omega) (w6.heap.size + 1) (by simp) ?_
                 intro g4 cap4 w7 hown4 hgrow4 hat4 hlt4
                 have HN4 : Hid (w7.ownsRow w2.heap.size 92 3 (.slice (some ⟨g4, 0, none⟩) (U.length + 1) cap4) (U.length + 1) (U.flatMap SnT.cs ++ [.string x.p, .string x.d, .int .i64 x.v])) := hown4
                 have HB7 : Hid (Below w2.heap.size w2 w7) := HB6.out.trans (((Below.refl _ _).alloc (by omega) _).grown hgrow4 (by simp; omega) (fun j hj => (HO6.out.lt j hj).1))
                 have HX7 : Hid (w7.heap[nb]? = some (.cells #[.string x.p, .string x.d, .int .i64 x.v, .int .i64 x.m, .int .i64 x.c, .int .i64 x.o, .int .i64 x.k] 69 (0, 0))) := by
                   refine (((Chg.alloc w6 _ _).trans (Chg.grown hgrow4)).block nb (Array.getElem?_eq_some_iff.1 HX6.out).1 (fun e9 => ?_)).trans HX6.out
                   obtain ⟨cur9, h9⟩ := owns_kind HO6.out e9
                   rw [HX6.out] at h9
                   simp at h9
                 obtain ⟨m0, m1, m2, m3, m4, m5, m6⟩ := cells_7 HX7.out
                 clear hown4 hgrow4 hat4 hlt4 n0 n1 n2 n3 n4 n5 n6)
              | fail)
            go_roundw
            case rel =>
              refine ⟨q + 1, by go_num, by omega, ?_, HB7.out⟩
              show World.ownsRow _ _ _ _ _ _ _
              rw [HTK.out, if_pos HCV.out, List.flatMap_append, List.length_append]
              have h9 := HN4.out
              simpa [snN, sd, sv] using h9
            case measure => simp [intOf]; omega
        | true =>
          cases d with
          | false =>
            have HCV : Hid (covers 3 p 1 x.p = true) := (cov_val HP.out HXP.out (show eqB x.p p = true from eE) HKD.out HBD.out).trans rfl
            go_wp2_with (first
              | (at_builtin; refine wpList_append_lies _ rfl _ _ _ rfl w2.heap.size 92 i0 _ 3 40 Tryz.underlying29 hi0 hz0 hz1 hz2 rfl (by omega) u9 U.length (U.flatMap SnT.cs) rfl (World.ownsRow.alloc HO6.out _) ⟨w6.heap.size, 0, none⟩ 1 1 [.string x.p, .string x.d, .int .i64 x.v] rfl rfl (World.news_of_block (cs := #[.string x.p, .string x.d, .int .i64 x.v]) (t := 92) (fr := (0, 0)) (heap_alloc_new w6 _)) (by simp [Value.oneCell']) (by have := HLL.out; omega) (by have := HLL.out; unfold maxLen; omega) (by have := HLL.out; omega) (by simp; omega) (w6.heap.size + 1) (by simp) ?_
                 intro g4 cap4 w7 hown4 hgrow4 hat4 hlt4
                 have HN4 : Hid (w7.ownsRow w2.heap.size 92 3 (.slice (some ⟨g4, 0, none⟩) (U.length + 1) cap4) (U.length + 1) (U.flatMap SnT.cs ++ [.string x.p, .string x.d, .int .i64 x.v])) := hown4
                 have HB7 : Hid (Below w2.heap.size w2 w7) := HB6.out.trans (((Below.refl _ _).alloc (by omega) _).grown hgrow4 (by simp; omega) (fun j hj => (HO6.out.lt j hj).1))
                 have HX7 : Hid (w7.heap[nb]? = some (.cells #[.string x.p, .string x.d, .int .i64 x.v, .int .i64 x.m, .int .i64 x.c, .int .i64 x.o, .int .i64 x.k] 69 (0, 0))) := by
                   refine (((Chg.alloc w6 _ _).trans (Chg.grown hgrow4)).block nb (Array.getElem?_eq_some_iff.1 HX6.out).1 (fun e9 => ?_)).trans HX6.out
                   obtain ⟨cur9, h9⟩ := owns_kind HO6.out e9
                   rw [HX6.out] at h9
                   simp at h9
                 obtain ⟨m0, m1, m2, m3, m4, m5, m6⟩ := cells_7 HX7.out
                 clear hown4 hgrow4 hat4 hlt4 n0 n1 n2 n3 n4 n5 n6)
              | fail)
            go_roundw
            case rel =>
              refine ⟨q + 1, by go_num, by omega, ?_, HB7.out⟩
              show World.ownsRow _ _ _ _ _ _ _
              rw [HTK.out, if_pos HCV.out, List.flatMap_append, List.length_append]
              have h9 := HN4.out
              simpa [snN, sd, sv] using h9
            case measure => simp [intOf]; omega
          | true =>
            have HCV : Hid (covers 3 p 1 x.p = true) := (cov_val HP.out HXP.out (show eqB x.p p = true from eE) HKD.out HBD.out).trans rfl
            go_wp2_with (first
              | (at_builtin; refine wpList_append_lies _ rfl _ _ _ rfl w2.heap.size 92 i0 _ 3 40 Tryz.underlying29 hi0 hz0 hz1 hz2 rfl (by omega) u9 U.length (U.flatMap SnT.cs) rfl (World.ownsRow.alloc HO6.out _) ⟨w6.heap.size, 0, none⟩ 1 1 [.string x.p, .string x.d, .int .i64 x.v] rfl rfl (World.news_of_block (cs := #[.string x.p, .string x.d, .int .i64 x.v]) (t := 92) (fr := (0, 0)) (heap_alloc_new w6 _)) (by simp [Value.oneCell']) (by have := HLL.out; omega) (by have := HLL.out; unfold maxLen; omega) (by have := HLL.out; omega) (by simp; omega) (w6.heap.size + 1) (by simp) ?_
                 intro g4 cap4 w7 hown4 hgrow4 hat4 hlt4
                 have HN4 : Hid (w7.ownsRow w2.heap.size 92 3 (.slice (some ⟨g4, 0, none⟩) (U.length + 1) cap4) (U.length + 1) (U.flatMap SnT.cs ++ [.string x.p, .string x.d, .int .i64 x.v])) := hown4
                 have HB7 : Hid (Below w2.heap.size w2 w7) := HB6.out.trans (((Below.refl _ _).alloc (by omega) _).grown hgrow4 (by simp; omega) (fun j hj => (HO6.out.lt j hj).1))
                 have HX7 : Hid (w7.heap[nb]? = some (.cells #[.string x.p, .string x.d, .int .i64 x.v, .int .i64 x.m, .int .i64 x.c, .int .i64 x.o, .int .i64 x.k] 69 (0, 0))) := by
                   refine (((Chg.alloc w6 _ _).trans (Chg.grown hgrow4)).block nb (Array.getElem?_eq_some_iff.1 HX6.out).1 (fun e9 => ?_)).trans HX6.out
                   obtain ⟨cur9, h9⟩ := owns_kind HO6.out e9
                   rw [HX6.out] at h9
                   simp at h9
                 obtain ⟨m0, m1, m2, m3, m4, m5, m6⟩ := cells_7 HX7.out
                 clear hown4 hgrow4 hat4 hlt4 n0 n1 n2 n3 n4 n5 n6)
              | fail)
            go_roundw
            case rel =>
              refine ⟨q + 1, by go_num, by omega, ?_, HB7.out⟩
              show World.ownsRow _ _ _ _ _ _ _
              rw [HTK.out, if_pos HCV.out, List.flatMap_append, List.length_append]
              have h9 := HN4.out
              simpa [snN, sd, sv] using h9
            case measure => simp [intOf]; omega
      · have eE : (x.p.toList == p.toList) = false := beq_ne hE
        clear hE
        cases b with
        | false =>
          cases d with
          | false =>
            have HCV : Hid (covers 3 p 1 x.p = false) := (cov_val HP.out HXP.out (show eqB x.p p = false from eE) HKD.out HBD.out).trans rfl
            go_wp2_with fail
            go_roundw
            case rel =>
              refine ⟨q + 1, by go_num, by omega, ?_, HB6.out⟩
              show World.ownsRow _ _ _ _ _ _ _
              rw [HTK.out, if_neg (by rw [HCV.out]; simp), List.append_nil]
              exact HO6.out
            case measure => simp [intOf]; omega
          | true =>
            have HCV : Hid (covers 3 p 1 x.p = false) := (cov_val HP.out HXP.out (show eqB x.p p = false from eE) HKD.out HBD.out).trans rfl
            go_wp2_with fail
            go_roundw
            case rel =>
              refine ⟨q + 1, by go_num, by omega, ?_, HB6.out⟩
              show World.ownsRow _ _ _ _ _ _ _
              rw [HTK.out, if_neg (by rw [HCV.out]; simp), List.append_nil]
              exact HO6.out
            case measure => simp [intOf]; omega
        | true =>
          cases d with
          | false =>
            have HCV : Hid (covers 3 p 1 x.p = true) := (cov_val HP.out HXP.out (show eqB x.p p = false from eE) HKD.out HBD.out).trans rfl
            go_wp2_with (first
              | (at_builtin; refine wpList_append_lies _ rfl _ _ _ rfl w2.heap.size 92 i0 _ 3 40 Tryz.underlying29 hi0 hz0 hz1 hz2 rfl (by omega) u9 U.length (U.flatMap SnT.cs) rfl (World.ownsRow.alloc HO6.out _) ⟨w6.heap.size, 0, none⟩ 1 1 [.string x.p, .string x.d, .int .i64 x.v] rfl rfl (World.news_of_block (cs := #[.string x.p, .string x.d, .int .i64 x.v]) (t := 92) (fr := (0, 0)) (heap_alloc_new w6 _)) (by simp [Value.oneCell']) (by have := HLL.out; omega) (by have := HLL.out; unfold maxLen; omega) (by have := HLL.out; omega) (by simp; omega) (w6.heap.size + 1) (by simp) ?_
                 intro g4 cap4 w7 hown4 hgrow4 hat4 hlt4
                 have HN4 : Hid (w7.ownsRow w2.heap.size 92 3 (.slice (some ⟨g4, 0, none⟩) (U.length + 1) cap4) (U.length + 1) (U.flatMap SnT.cs ++ [.string x.p, .string x.d, .int .i64 x.v])) := hown4
                 have HB7 : Hid (Below w2.heap.size w2 w7) := HB6.out.trans (((Below.refl _ _).alloc (by omega) _).grown hgrow4 (by simp; omega) (fun j hj => (HO6.out.lt j hj).1))
                 have HX7 : Hid (w7.heap[nb]? = some (.cells #[.string x.p, .string x.d, .int .i64 x.v, .int .i64 x.m, .int .i64 x.c, .int .i64 x.o, .int .i64 x.k] 69 (0, 0))) := by
                   refine (((Chg.alloc w6 _ _).trans (Chg.grown hgrow4)).block nb (Array.getElem?_eq_some_iff.1 HX6.out).1 (fun e9 => ?_)).trans HX6.out
                   obtain ⟨cur9, h9⟩ := owns_kind HO6.out e9
                   rw [HX6.out] at h9
                   simp at h9
                 obtain ⟨m0, m1, m2, m3, m4, m5, m6⟩ := cells_7 HX7.out
                 clear hown4 hgrow4 hat4 hlt4 n0 n1 n2 n3 n4 n5 n6)
              | fail)
            go_roundw
            case rel =>
              refine ⟨q + 1, by go_num, by omega, ?_, HB7.out⟩
              show World.ownsRow _ _ _ _ _ _ _
              rw [HTK.out, if_pos HCV.out, List.flatMap_append, List.length_append]
              have h9 := HN4.out
              simpa [snN, sd, sv] using h9
            case measure => simp [intOf]; omega
          | true =>
            have HCV : Hid (covers 3 p 1 x.p = true) := (cov_val HP.out HXP.out (show eqB x.p p = false from eE) HKD.out HBD.out).trans rfl
            go_wp2_with (first
              | (at_builtin; refine wpList_append_lies _ rfl _ _ _ rfl w2.heap.size 92 i0 _ 3 40 Tryz.underlying29 hi0 hz0 hz1 hz2 rfl (by omega) u9 U.length (U.flatMap SnT.cs) rfl (World.ownsRow.alloc HO6.out _) ⟨w6.heap.size, 0, none⟩ 1 1 [.string x.p, .string x.d, .int .i64 x.v] rfl rfl (World.news_of_block (cs := #[.string x.p, .string x.d, .int .i64 x.v]) (t := 92) (fr := (0, 0)) (heap_alloc_new w6 _)) (by simp [Value.oneCell']) (by have := HLL.out; omega) (by have := HLL.out; unfold maxLen; omega) (by have := HLL.out; omega) (by simp; omega) (w6.heap.size + 1) (by simp) ?_
                 intro g4 cap4 w7 hown4 hgrow4 hat4 hlt4
                 have HN4 : Hid (w7.ownsRow w2.heap.size 92 3 (.slice (some ⟨g4, 0, none⟩) (U.length + 1) cap4) (U.length + 1) (U.flatMap SnT.cs ++ [.string x.p, .string x.d, .int .i64 x.v])) := hown4
                 have HB7 : Hid (Below w2.heap.size w2 w7) := HB6.out.trans (((Below.refl _ _).alloc (by omega) _).grown hgrow4 (by simp; omega) (fun j hj => (HO6.out.lt j hj).1))
                 have HX7 : Hid (w7.heap[nb]? = some (.cells #[.string x.p, .string x.d, .int .i64 x.v, .int .i64 x.m, .int .i64 x.c, .int .i64 x.o, .int .i64 x.k] 69 (0, 0))) := by
                   refine (((Chg.alloc w6 _ _).trans (Chg.grown hgrow4)).block nb (Array.getElem?_eq_some_iff.1 HX6.out).1 (fun e9 => ?_)).trans HX6.out
                   obtain ⟨cur9, h9⟩ := owns_kind HO6.out e9
                   rw [HX6.out] at h9
                   simp at h9
                 obtain ⟨m0, m1, m2, m3, m4, m5, m6⟩ := cells_7 HX7.out
                 clear hown4 hgrow4 hat4 hlt4 n0 n1 n2 n3 n4 n5 n6)
              | fail)
            go_roundw
            case rel =>
              refine ⟨q + 1, by go_num, by omega, ?_, HB7.out⟩
              show World.ownsRow _ _ _ _ _ _ _
              rw [HTK.out, if_pos HCV.out, List.flatMap_append, List.length_append]
              have h9 := HN4.out
              simpa [snN, sd, sv] using h9
            case measure => simp [intOf]; omega
    · obtain rfl : q = N := by omega
      have hO := HO.out
      rw [List.take_of_length_le (by rw [HN.out]; exact Nat.le_refl _)] at hO
      have HOF : Hid _ := hO
      clear hO
      go_wp2_with fail
      go_ret2
      exact ⟨_, rfl, ⟨HOF.out.1, HOF.out.2.imp id (fun ⟨g, cap, cur, h1, h2, r⟩ => ⟨g, cap, cur, h1, Nat.le_trans HB2.out.size h2, r⟩)⟩, trans2 HB2.out HB.out⟩
end Go.Proofs.YtmbomdhhiioigaaGreatDoor
