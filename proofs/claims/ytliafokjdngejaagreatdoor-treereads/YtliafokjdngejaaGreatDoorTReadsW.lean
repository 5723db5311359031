/-
  TreeReads: the walk.
-/
import Derived.Test.YtliafokjdngejaaGreatDoorTReads
import Derived.Test.YtliafokjdngejaaGreatDoorTKnown
namespace Go.Proofs.YtliafokjdngejaaGreatDoor
open Go.RowKit Go.Maps Go.WideShapes
set_option linter.unusedVariables false
set_option linter.unusedSimpArgs false
attribute [local go_sem ↓] Go.wp_at_zero Go.wp_at_succ

theorem ops_new (w : World) (k : Int) (p d : ByteArray) (v f : Int) : OpsAt (w.alloc (.cells #[.int .i64 k, .string p, .string d, .int .i64 v, .int .i64 f] 33)) (w.heap.size + 1) (some ⟨w.heap.size, 0, none⟩) [⟨k, p, d, v, f⟩] := by
  intro i o hi
  obtain ⟨rfl, rfl⟩ : i = 0 ∧ o = ⟨k, p, d, v, f⟩ := by
    cases i with
    | zero => exact ⟨rfl, by simpa using hi.symm⟩
    | succ i => simp at hi
  have hb : (w.alloc (.cells #[.int .i64 k, .string p, .string d, .int .i64 v, .int .i64 f] 33)).heap[w.heap.size]? = some (.cells #[.int .i64 k, .string p, .string d, .int .i64 v, .int .i64 f] 33 (0, 0)) := heap_alloc_new _ _
  obtain ⟨c0, c1, c2, c3, c4⟩ := cells_5 hb
  refine ⟨w.heap.size, 0, rfl, by omega, fun j x hx => ?_⟩
  have hj : j < 5 := by have := (List.getElem?_eq_some_iff.1 hx).1; simpa using this
  rcases (show j = 0 ∨ j = 1 ∨ j = 2 ∨ j = 3 ∨ j = 4 by omega) with rfl | rfl | rfl | rfl | rfl
  · obtain rfl : Value.int .i64 k = x := by simpa using hx
    exact c0
  · obtain rfl : Value.string p = x := by simpa using hx
    exact c1
  · obtain rfl : Value.string d = x := by simpa using hx
    exact c2
  · obtain rfl : Value.int .i64 v = x := by simpa using hx
    exact c3
  · obtain rfl : Value.int .i64 f = x := by simpa using hx
    exact c4
abbrev rdCs (T : List Nd) (x : Nd) (k : Int) (ka : Option Addr) (kn kc : Nat) : List Value := [.string x.p, .string (if k = 5 then x.d else ⟨#[]⟩), .int .i64 x.v, .int .i64 x.m, .int .i64 x.c, .int .i64 x.o, .slice ka kn kc]
abbrev rdK (T : List Nd) (x : Nd) (k : Int) : List ByteArray := if k = 7 then kidsM T x.p else []
theorem rd_tr (B tb q ob : Nat) (T : List Nd) (p : ByteArray) (k v : Int) (w : World) (hg : GroundT w) (hgc : GroundC w) (h : TrAt w B tb q T) (hq : q ≤ 900) (h4 : 4 ≤ k) (h7 : k ≤ 7) (ho : OpsAt w w.heap.size (some ⟨ob, 0, none⟩) [⟨k, p, ⟨#[]⟩, v, 0⟩]) :
    Calls Tryz.prog 10 #[.pointer (some ⟨tb, 0, none⟩), .int .i64 1, .int .i64 1, .slice (some ⟨ob, 0, none⟩) 1 1] w fun e w' => ∃ ra rn rc ca cc, e = .returned (.tuple #[.agg #[.int .i64 1, .int .i64 (wantC T p k v), .int .i64 0, .slice ra rn rc], .slice ca 0 cc]) ∧ (wantC T p k v = 0 → ∀ x, fnd T p = some x → ∃ g ka kn kc, ra = some ⟨g, 0, none⟩ ∧ rn = 1 ∧ w'.ownsRow w.heap.size 40 7 (.slice (some ⟨g, 0, none⟩) 1 rc) 1 (rdCs T x k ka kn kc) ∧ w'.ownsRow w.heap.size 9 1 (.slice ka kn kc) (rdK T x k).length ((rdK T x k).map Value.string)) ∧ TrAt w' B tb (q + 1) T ∧ Chg w w' (fun k => k = tb) := by
  have h9 := play_tr B tb q T 1 1 (some ⟨ob, 0, none⟩) 1 [⟨k, p, ⟨#[]⟩, v, 0⟩] w hg hgc h hq ho (fun o ho' => by obtain rfl := List.mem_singleton.1 ho'; exact ⟨show (-9223372036854775808 : Int) ≤ 0 by omega, show (0 : Int) < 9223372036854775808 by omega⟩)
  rw [play_rd T p k v h4 h7] at h9
  refine Calls.mono h9 ?_
  rintro e w' ⟨L, rv, chV, rfl, hL, hRs, hch, ht, hc⟩
  obtain ⟨ca, cc, rfl⟩ := slice_of hch
  obtain ⟨ra, rc, rfl⟩ := slice_of hRs.row
  refine ⟨ra, L.length, rc, ca, cc, rfl, fun hw x hx => ?_, ht, hc⟩
  simp only [hw, if_true, hx] at hL
  have hlen : L.length = 1 := by have := congrArg List.length hL; simpa using this
  obtain ⟨y, rfl⟩ := List.length_eq_one_iff.1 hlen
  have hy : y.r = rdR T x k := by simpa using hL
  have hrow := hRs.row
  obtain ⟨g, cap, e9⟩ := form_n hrow (by simp)
  obtain ⟨rfl, rfl⟩ : ra = some ⟨g, 0, none⟩ ∧ rc = cap := by simpa using e9
  have hk := hRs.kids y List.mem_cons_self
  rw [hy] at hk
  refine ⟨g, y.a, y.n, y.c, rfl, rfl, ?_, hk⟩
  have e : Fa.fl ([y].map RsT.el ++ List.replicate (1 - 1) zEl) = rdCs T x k y.a y.n y.c := by
    show y.cs ++ [] = _
    rw [List.append_nil]
    unfold RsT.cs
    rw [hy]
    rfl
  have h8 : w'.ownsRow w.heap.size 40 7 (.slice (some ⟨g, 0, none⟩) 1 rc) 1 (Fa.fl ([y].map RsT.el ++ List.replicate (1 - 1) zEl)) := hrow
  rw [e] at h8
  exact h8
/-- read, at any kind. -/
theorem read_rd (B g cap kb : Nat) (T : List Nd) (x : Nd) (k : Int) (h4 : 4 ≤ k) (h7 : k ≤ 7) (ka : Option Addr) (kn kc : Nat) (w : World) (hT : Inv T) (hxp : (parse x.p).1 = 0) (hr : w.ownsRow B 54 7 (.slice (some ⟨g, 0, none⟩) T.length cap) T.length (T.flatMap Nd.cs)) (hK : w.ownsRow kb 9 1 (.slice ka kn kc) (rdK T x k).length ((rdK T x k).map Value.string)) (hg : Ground w) :
    Calls Tryz.prog 22 #[.agg #[.string x.p, .string (if k = 5 then x.d else ⟨#[]⟩), .int .i64 x.v, .int .i64 x.m, .int .i64 x.c, .int .i64 x.o, .slice ka kn kc], .int .i64 k, .slice (some ⟨g, 0, none⟩) T.length cap, x.V] w fun e w' => e = .returned (.bool true) ∧ Below w.heap.size w w' := by
  rcases (show k = 4 ∨ k = 5 ∨ k = 6 ∨ k = 7 by omega) with rfl | rfl | rfl | rfl
  · exact read_4 B g cap kb T x ka kn kc w hT hxp hr hK hg
  · exact read_5 B g cap kb T x ka kn kc w hT hxp hr hK hg
  · exact read_6 B g cap kb T x ka kn kc w hT hxp hr hK hg
  · exact read_7 B g cap kb T x ka kn kc w hT hxp hr hK hg
abbrev zN : Nd := ⟨⟨#[]⟩, ⟨#[]⟩, 0, 0, 0, 0, 0⟩
theorem fndV_n (T : List Nd) (p : ByteArray) : fndV T p = ((fnd T p).getD zN).V := by
  unfold fndV
  cases fnd T p <;> rfl
theorem want_cases (T : List Nd) (p : ByteArray) (k v : Int) : ((parse p).1 ≠ 0 ∧ wantC T p k v = 10) ∨ ((parse p).1 = 0 ∧ (fnd T p).isSome = false ∧ wantC T p k v = 40) ∨ ((parse p).1 = 0 ∧ (fnd T p).isSome = true ∧ k = 4 ∧ v ≠ -1 ∧ v ≠ ((fnd T p).getD zN).v ∧ wantC T p k v = 42) ∨ ((parse p).1 = 0 ∧ (fnd T p).isSome = true ∧ wantC T p k v = 0 ∧ (k = 4 ∧ v = -1 ∨ k = 4 ∧ v ≠ -1 ∧ v = ((fnd T p).getD zN).v ∨ k ≠ 4)) := by
  unfold wantC
  by_cases hp : (parse p).1 = 0
  · rw [if_neg (by simpa using hp)]
    cases hf : fnd T p with
    | none => exact .inr (.inl ⟨hp, rfl, rfl⟩)
    | some x =>
      show _ ∨ _ ∨ _ ∨ _
      by_cases h : k = 4 ∧ v ≠ -1 ∧ v ≠ x.v
      · exact .inr (.inr (.inl ⟨hp, rfl, h.1, h.2.1, h.2.2, by show (if _ then _ else _) = _; rw [if_pos h]⟩))
      · refine .inr (.inr (.inr ⟨hp, rfl, by show (if _ then _ else _) = _; rw [if_neg h], ?_⟩))
        show _ ∨ _ ∧ _ ∧ v = x.v ∨ _
        by_cases h4 : k = 4
        · by_cases hv : v = -1
          · exact .inl ⟨h4, hv⟩
          · by_cases hv2 : v = x.v
            · exact .inr (.inl ⟨h4, hv, hv2⟩)
            · exact absurd ⟨h4, hv, hv2⟩ h
        · exact .inr (.inr h4)
  · exact .inl ⟨hp, by rw [if_pos hp]⟩

set_option maxHeartbeats 8000000 in
set_option maxRecDepth 100000 in
theorem TreeReads_walk (W : World) (a : Option Addr) (c : Nat) (l : List StT) (p : ByteArray) (v : Int) (hl : l.length ≤ maxLen) (hs : Steps W a l) (hg : GroundT W) (hgc : GroundC W) :
    Calls Tryz.prog 7 #[.slice a l.length c, .string p, .int .i64 v] W fun e w' => e = .returned (.bool true) ∧ Below W.heap.size W w' := by
  have HG : Hid (GroundT W) := hg
  have HGC : Hid (GroundC W) := hgc
  have HPD : Hid _ := played_any W a c l hl hs hg hgc
  clear hs hg hgc hl
  go_enter Tryz.func7, Tryz.ntmps7
  go_wp2_with fail
  refine Calls.mono HPD.out ?_
  rintro e w1 ⟨tb, rfl, ht1, hb1⟩
  obtain ⟨T, hT⟩ : ∃ T, runL [rootN] (l.take 120) = T := ⟨_, rfl⟩
  rw [hT] at ht1
  have HT1 : Hid (TrAt w1 W.heap.size tb 120 T) := ht1
  have HB1 : Hid (Below W.heap.size W w1) := hb1
  have HI : Hid (Inv T) := ht1.snd.inv
  clear hT ht1 hb1 HPD
  go_wp2_with fail
  refine Calls.mono (nodes_tr _ _ _ _ _ HT1.out) ?_
  rintro e w2 ⟨g, cap, rfl, hr2, hb2⟩
  have HT2 : Hid (TrAt w2 W.heap.size tb 120 T) := HT1.out.below hb2
  have HB2 : Hid (Below W.heap.size W w2) := trans2 HB1.out hb2
  have HR2 : Hid (w2.ownsRow w1.heap.size 54 7 (.slice (some ⟨g, 0, none⟩) T.length cap) T.length (T.flatMap Nd.cs)) := hr2
  clear hr2 hb2
  have HFI : Hid _ := findT_any w1.heap.size g cap T p w2 HR2.out (by have := HI.out.len; omega)
  have HWC : Hid (∀ k, _) := fun k => want_cases T p k v
  rw [fndV_n] at HFI
  have HFN : Hid (∀ x, fnd T p = some x → (fnd T p).getD zN = x) := fun x hx => by rw [hx]; rfl
  obtain ⟨n, hn⟩ : ∃ n, (fnd T p).getD zN = n := ⟨_, rfl⟩
  obtain ⟨th, hth⟩ : ∃ th, (fnd T p).isSome = th := ⟨_, rfl⟩
  have HFS : Hid (th = true → fnd T p = some n) := fun h => by
    rw [← hth] at h
    obtain ⟨x, hx⟩ := Option.isSome_iff_exists.1 h
    rw [hx, ← HFN.out x hx, hn]
  rw [hn, hth] at HFI
  simp only [hn, hth] at HWC
  clear hn hth HFN
  go_wp2_with fail
  refine Calls.mono HFI.out ?_
  rintro e w3 ⟨rfl, hb3⟩
  have HB3 : Hid (Below w2.heap.size w2 w3) := hb3
  clear hb3
  go_upto_region 6 with fail
  obtain ⟨w4, hw4⟩ : ∃ y, w3.alloc (.cells #[.string n.p, .string n.d, .int .i64 n.v, .int .i64 n.m, .int .i64 n.c, .int .i64 n.o, .int .i64 n.k] 54) = y := ⟨_, rfl⟩
  obtain ⟨nb, hnb⟩ : ∃ y, w3.heap.size = y := ⟨_, rfl⟩
  have HN4 : Hid (w4.heap[nb]? = some (.cells #[.string n.p, .string n.d, .int .i64 n.v, .int .i64 n.m, .int .i64 n.c, .int .i64 n.o, .int .i64 n.k] 54 (0, 0))) := by rw [← hw4, ← hnb]; exact heap_alloc_new _ _
  have HB4 : Hid (Below w2.heap.size w2 w4) := by rw [← hw4]; exact HB3.out.alloc HB3.out.size _
  rw [hw4, hnb]
  clear hw4 hnb
  have HPS : Hid (∀ W', Ground W' → Calls Tryz.prog 21 #[.string p] W' (Parsed p W')) := fun W' h => parse_any p W' h
  obtain ⟨pc, hpc⟩ : ∃ pc, (parse p).1 = pc := ⟨_, rfl⟩
  have HPC : Hid ((parse p).1 = pc) := hpc
  simp only [hpc] at HWC
  clear hpc
  go_wp2_with fail
  refine Calls.mono (HPS.out _ (HG.out.below (trans2 HB2.out HB4.out)).toGround) ?_
  rintro e w5 ⟨pa, pcap, rfl, _, hb5⟩
  rw [HPC.out]
  have HB5 : Hid (Below w2.heap.size w2 w5) := trans2 HB4.out hb5
  have HN5 : Hid _ := kept_block hb5 HN4.out
  have HT5 : Hid (TrAt w5 W.heap.size tb 120 T) := HT2.out.below HB5.out
  have HR5 : Hid (w5.ownsRow w1.heap.size 54 7 (.slice (some ⟨g, 0, none⟩) T.length cap) T.length (T.flatMap Nd.cs)) := owns_chg HR2.out (Chg.of_below HB5.out (fun _ => False)) (fun _ _ => id)
  have HBW5 : Hid (Below W.heap.size W w5) := trans2 HB2.out HB5.out
  clear hb5 HB5 HN4 HB4 HB3 HT2 HR2 HB2 HFI HPS HT1 HB1
  obtain ⟨N, hN⟩ : ∃ N, T.length = N := ⟨_, rfl⟩
  have HN : Hid (T.length = N) := hN
  rw [hN] at HR5 ⊢
  clear hN
  go_wp2_with fail
  go_loopw [13] (fun i wr => ∃ k : Nat, i = .int .i64 k ∧ 4 ≤ k ∧ k ≤ 8 ∧ Hid (TrAt wr W.heap.size tb (116 + k) T) ∧ Hid (wr.ownsRow w1.heap.size 54 7 (.slice (some ⟨g, 0, none⟩) N cap) N (T.flatMap Nd.cs)) ∧ Hid (wr.heap[nb]? = some (.cells #[.string n.p, .string n.d, .int .i64 n.v, .int .i64 n.m, .int .i64 n.c, .int .i64 n.o, .int .i64 n.k] 54 (0, 0))) ∧ Hid (Below W.heap.size W wr)) (fun i _ => 8 - (intOf i).toNat)
  case atStart => exact ⟨4, rfl, by omega, by omega, HT5.out, HR5.out, HN5.out, HBW5.out⟩
  case round =>
    clear HT5 HR5 HN5 HBW5
    obtain ⟨k, rfl, hk4, hk8, HT, HR, HNB, HB⟩ := hrel
    by_cases hk : k ≤ 7
    · have hk' : (k : Int) ≤ 7 := by omega
      have HPL : Hid _ := rd_tr W.heap.size tb (116 + k) wr.heap.size T p k v (wr.alloc (.cells #[.int .i64 k, .string p, .string ⟨#[]⟩, .int .i64 v, .int .i64 0] 33)) (HG.out.below (HB.out.alloc HB.out.size _)) (HGC.out.below (HB.out.alloc HB.out.size _)) (HT.out.below ((Below.refl _ _).alloc (Nat.le_refl _) _)) (by omega) (by omega) (by omega) (by have := ops_new wr k p ⟨#[]⟩ v 0; simpa using this)
      have HCS : Hid _ := HWC.out k
      obtain ⟨wc, hwc⟩ : ∃ wc, wantC T p k v = wc := ⟨_, rfl⟩
      rw [hwc] at HPL HCS
      clear hwc
      go_wp2_with fail
      refine Calls.mono HPL.out ?_
      rintro e w6 ⟨ra, rn, rc, ca, cc, rfl, hres, ht6, hc6⟩
      have HRES : Hid _ := hres
      have HT6 : Hid (TrAt w6 W.heap.size tb (116 + (k + 1)) T) := ht6
      have hc6' : Chg wr w6 (fun k => k = tb) := (Chg.alloc wr _ _).trans hc6
      have HR6 : Hid (w6.ownsRow w1.heap.size 54 7 (.slice (some ⟨g, 0, none⟩) N cap) N (T.flatMap Nd.cs)) := row_keep HT.out hc6' HR.out (by decide)
      have HN6 : Hid (w6.heap[nb]? = some (.cells #[.string n.p, .string n.d, .int .i64 n.v, .int .i64 n.m, .int .i64 n.c, .int .i64 n.o, .int .i64 n.k] 54 (0, 0))) := by
        show _ = _
        rw [hc6'.block nb (Array.getElem?_eq_some_iff.1 HNB.out).1 (fun e => ?_)]
        · exact HNB.out
        · obtain ⟨v', hb⟩ := HT.out.box
          have h9 := HNB.out
          rw [show nb = tb from e, hb] at h9
          simp at h9
      have HB6 : Hid (Below W.heap.size W w6) := HB.out.trans (chg_lo hc6' HT.out.lo HB.out.size)
      clear hres ht6 hc6 hc6' HPL HT HR HNB HB
      go_upto_region 12 with fail
      obtain ⟨w7, hw7⟩ : ∃ y, w6.alloc (.cells #[.int .i64 1, .int .i64 wc, .int .i64 0, .slice ra rn rc] 28) = y := ⟨_, rfl⟩
      obtain ⟨rb, hrb⟩ : ∃ y, w6.heap.size = y := ⟨_, rfl⟩
      have hb67 : Below w6.heap.size w6 w7 := by rw [← hw7]; exact (Below.refl _ _).alloc (Nat.le_refl _) _
      have HB67 : Hid _ := hb67
      have HP7 : Hid (w7.heap[rb]? = some (.cells #[.int .i64 1, .int .i64 wc, .int .i64 0, .slice ra rn rc] 28 (0, 0))) := by rw [← hw7, ← hrb]; exact heap_alloc_new _ _
      have HT7 : Hid (TrAt w7 W.heap.size tb (116 + (k + 1)) T) := HT6.out.below hb67
      have HR7 : Hid (w7.ownsRow w1.heap.size 54 7 (.slice (some ⟨g, 0, none⟩) N cap) N (T.flatMap Nd.cs)) := owns_chg HR6.out (Chg.of_below hb67 (fun _ => False)) (fun _ _ => id)
      have HN7 : Hid _ := kept_block hb67 HN6.out
      have HB7 : Hid (Below W.heap.size W w7) := trans2 HB6.out hb67
      rw [hw7, hrb]
      clear hw7 hrb hb67 HT6 HR6 HN6 HB6
      obtain ⟨p0, p1, p2, p3⟩ := cells_4 HP7.out
      obtain ⟨n0, n1, n2, n3, n4, n5, n6⟩ := cells_7 HN7.out
      rcases HCS.out with ⟨c1, c2⟩ | ⟨c1, c2, c3⟩ | ⟨c1, c2, c3, c4, c5, c6⟩ | ⟨c1, c2, c3, c4⟩
      · have e1 : (pc != 0) = true := by simpa using c1
        subst c2
        clear HRES HCS c1
        go_upto_region 20 with (first | (go_at_call 12; refine Calls.mono (numT_any _ _) ?_; rintro e w' ⟨rfl, hw'⟩; have hw9 := hw'.symm; subst hw9; clear hw') | fail)
        go_quiet (fail)
        go_wp2_with fail
        go_roundw
        case rel => exact ⟨k + 1, by go_num, by omega, by omega, HT7.out.below (below_dN (Below.refl _ _) _), owns_chg HR7.out (Chg.of_below (below_dN (Below.refl _ _) _) (fun _ => False)) (fun _ _ => id), kept_block (below_dN (Below.refl _ _) _) HN7.out, below_dN HB7.out _⟩
        case measure => simp [intOf]; omega
      · subst c1 c2 c3
        clear HRES HCS
        go_upto_region 20 with (first | (go_at_call 12; refine Calls.mono (numT_any _ _) ?_; rintro e w' ⟨rfl, hw'⟩; have hw9 := hw'.symm; subst hw9; clear hw') | fail)
        go_quiet (fail)
        go_wp2_with fail
        go_roundw
        case rel => exact ⟨k + 1, by go_num, by omega, by omega, HT7.out.below (below_dN (Below.refl _ _) _), owns_chg HR7.out (Chg.of_below (below_dN (Below.refl _ _) _) (fun _ => False)) (fun _ _ => id), kept_block (below_dN (Below.refl _ _) _) HN7.out, below_dN HB7.out _⟩
        case measure => simp [intOf]; omega
      · obtain rfl : k = 4 := by omega
        have e1 : (v != -1) = true := by simpa using c4
        have e2 : (v != n.v) = true := by simpa using c5
        subst c1 c2 c6
        clear HRES HCS c3 c4 c5
        go_upto_region 20 with (first | (go_at_call 12; refine Calls.mono (numT_any _ _) ?_; rintro e w' ⟨rfl, hw'⟩; have hw9 := hw'.symm; subst hw9; clear hw') | fail)
        go_quiet (fail)
        go_wp2_with fail
        go_roundw
        case rel => exact ⟨4 + 1, by go_num, by omega, by omega, HT7.out.below (below_dN (Below.refl _ _) _), owns_chg HR7.out (Chg.of_below (below_dN (Below.refl _ _) _) (fun _ => False)) (fun _ _ => id), kept_block (below_dN (Below.refl _ _) _) HN7.out, below_dN HB7.out _⟩
        case measure => simp [intOf]
      · subst c1 c2 c3
        obtain ⟨g2, ka, kn, kc, rfl, rfl, hrow, hkd⟩ := HRES.out rfl n (HFS.out rfl)
        have HRW : Hid (w7.ownsRow (wr.alloc (.cells #[.int .i64 k, .string p, .string ⟨#[]⟩, .int .i64 v, .int .i64 0] 33)).heap.size 40 7 (.slice (some ⟨g2, 0, none⟩) 1 rc) 1 (rdCs T n k ka kn kc)) := owns_chg hrow (Chg.of_below HB67.out (fun _ => False)) (fun _ _ => id)
        have HKD : Hid (w7.ownsRow (wr.alloc (.cells #[.int .i64 k, .string p, .string ⟨#[]⟩, .int .i64 v, .int .i64 0] 33)).heap.size 9 1 (.slice ka kn kc) (rdK T n k).length ((rdK T n k).map Value.string)) := owns_chg hkd (Chg.of_below HB67.out (fun _ => False)) (fun _ _ => id)
        have HXP : Hid ((parse n.p).1 = 0) := (HI.out.nd n (fnd_some (HFS.out rfl)).1).1
        obtain ⟨D, hD⟩ : ∃ D : ByteArray, (if (k : Int) = 5 then n.d else ⟨#[]⟩) = D := ⟨_, rfl⟩
        have HRD : Hid (∀ w', Below w7.heap.size w7 w' → Calls Tryz.prog 22 #[.agg #[.string n.p, .string D, .int .i64 n.v, .int .i64 n.m, .int .i64 n.c, .int .i64 n.o, .slice ka kn kc], .int .i64 k, .slice (some ⟨g, 0, none⟩) N cap, n.V] w' fun e w'' => e = .returned (.bool true) ∧ Below w'.heap.size w' w'') := fun w' hb => by
          have h9 := read_rd w1.heap.size g cap _ T n k (by omega) (by omega) ka kn kc w' HI.out HXP.out (by rw [HN.out]; exact owns_chg HR7.out (Chg.of_below hb (fun _ => False)) (fun _ _ => id)) (owns_chg HKD.out (Chg.of_below hb (fun _ => False)) (fun _ _ => id)) (HG.out.below (trans2 HB7.out hb)).toGround
          rw [hD, HN.out] at h9
          exact h9
        have HCE : Hid (∀ w', Below w7.heap.size w7 w' → (w'.cell? ⟨rb, 3, none⟩ = some (.slice (some ⟨g2, 0, none⟩) 1 rc) ∧ w'.cell? ⟨g2, 0, none⟩ = some (.string n.p) ∧ w'.cell? ⟨g2, 1, none⟩ = some (.string D) ∧ w'.cell? ⟨g2, 2, none⟩ = some (.int .i64 n.v) ∧ w'.cell? ⟨g2, 3, none⟩ = some (.int .i64 n.m) ∧ w'.cell? ⟨g2, 4, none⟩ = some (.int .i64 n.c) ∧ w'.cell? ⟨g2, 5, none⟩ = some (.int .i64 n.o) ∧ w'.cell? ⟨g2, 6, none⟩ = some (.slice ka kn kc)) ∧ (w'.cell? ⟨nb, 0, none⟩ = some (.string n.p) ∧ w'.cell? ⟨nb, 1, none⟩ = some (.string n.d) ∧ w'.cell? ⟨nb, 2, none⟩ = some (.int .i64 n.v) ∧ w'.cell? ⟨nb, 3, none⟩ = some (.int .i64 n.m) ∧ w'.cell? ⟨nb, 4, none⟩ = some (.int .i64 n.c) ∧ w'.cell? ⟨nb, 5, none⟩ = some (.int .i64 n.o) ∧ w'.cell? ⟨nb, 6, none⟩ = some (.int .i64 n.k))) := fun w' hb => by
          have h9 : w'.ownsRow _ 40 7 (.slice (some ⟨g2, 0, none⟩) 1 rc) 1 (rdCs T n k ka kn kc) := owns_chg HRW.out (Chg.of_below hb (fun _ => False)) (fun _ _ => id)
          exact ⟨⟨(cells_4 (kept_block hb HP7.out)).2.2.2, cell_n h9 rfl, by have := cell_n (k := 1) h9 rfl; rw [hD] at this; exact this, cell_n h9 rfl, cell_n h9 rfl, cell_n h9 rfl, cell_n h9 rfl, cell_n h9 rfl⟩, cells_7 (kept_block hb HN7.out)⟩
        have hD' : Hid _ := hD
        clear hrow hkd hD HRES HCS
        have hcase : ((k : Int) == 4) = true ∧ v = -1 ∨ (((k : Int) == 4) = true ∧ (v != -1) = true ∧ v = n.v) ∨ ((k : Int) == 4) = false := by
          rcases c4 with ⟨h1, h2⟩ | ⟨h1, h2, h3⟩ | h1
          · exact .inl ⟨by simpa using h1, h2⟩
          · exact .inr (.inl ⟨by simpa using h1, by simpa using h2, h3⟩)
          · exact .inr (.inr (by simpa using h1))
        clear c4
        have HFIN : Hid (∀ w', Below w7.heap.size w7 w' → TrAt w' W.heap.size tb (116 + (k + 1)) T ∧ w'.ownsRow w1.heap.size 54 7 (.slice (some ⟨g, 0, none⟩) N cap) N (T.flatMap Nd.cs) ∧ w'.heap[nb]? = some (.cells #[.string n.p, .string n.d, .int .i64 n.v, .int .i64 n.m, .int .i64 n.c, .int .i64 n.o, .int .i64 n.k] 54 (0, 0)) ∧ Below W.heap.size W w') := fun w' hb => ⟨HT7.out.below hb, owns_chg HR7.out (Chg.of_below hb (fun _ => False)) (fun _ _ => id), kept_block hb HN7.out, trans2 HB7.out hb⟩
        rcases hcase with ⟨e1, e2⟩ | ⟨e1, e2, e3⟩ | e1
        · subst e2
          go_upto_region 20 with (first | (go_at_call 12; refine Calls.mono (numT_any _ _) ?_; rintro e w' ⟨rfl, hw'⟩; have hw9 := hw'.symm; subst hw9; clear hw') | fail)
          clear p0 p1 p2 p3 n0 n1 n2 n3 n4 n5 n6
          obtain ⟨⟨p3, q0, q1, q2, q3, q4, q5, q6⟩, n0, n1, n2, n3, n4, n5, n6⟩ := HCE.out w7 (Below.refl _ _)
          have hrl : rb < w7.heap.size := (Array.getElem?_eq_some_iff.1 HP7.out).1
          go_region_held3 (fun w' => (w'.cell? ⟨rb, 3, none⟩ = some (.slice (some ⟨g2, 0, none⟩) 1 rc) ∧ w'.cell? ⟨g2, 0, none⟩ = some (.string n.p) ∧ w'.cell? ⟨g2, 1, none⟩ = some (.string D) ∧ w'.cell? ⟨g2, 2, none⟩ = some (.int .i64 n.v) ∧ w'.cell? ⟨g2, 3, none⟩ = some (.int .i64 n.m) ∧ w'.cell? ⟨g2, 4, none⟩ = some (.int .i64 n.c) ∧ w'.cell? ⟨g2, 5, none⟩ = some (.int .i64 n.o) ∧ w'.cell? ⟨g2, 6, none⟩ = some (.slice ka kn kc)) ∧ (w'.cell? ⟨nb, 0, none⟩ = some (.string n.p) ∧ w'.cell? ⟨nb, 1, none⟩ = some (.string n.d) ∧ w'.cell? ⟨nb, 2, none⟩ = some (.int .i64 n.v) ∧ w'.cell? ⟨nb, 3, none⟩ = some (.int .i64 n.m) ∧ w'.cell? ⟨nb, 4, none⟩ = some (.int .i64 n.c) ∧ w'.cell? ⟨nb, 5, none⟩ = some (.int .i64 n.o) ∧ w'.cell? ⟨nb, 6, none⟩ = some (.int .i64 n.k))) (first | go_keep | exact ⟨⟨p3, q0, q1, q2, q3, q4, q5, q6⟩, n0, n1, n2, n3, n4, n5, n6⟩)
            (first
              | (go_at_call 22; refine Calls.mono (HRD.out _ (below_drew0 _)) ?_
                 rintro e w8 ⟨rfl, hb8⟩
                 have HB8 : Hid (Below w7.heap.size w7 w8) := trans2 (below_drew0 _) hb8
                 clear hb8 p3 q0 q1 q2 q3 q4 q5 q6 n0 n1 n2 n3 n4 n5 n6
                 obtain ⟨⟨p3, q0, q1, q2, q3, q4, q5, q6⟩, n0, n1, n2, n3, n4, n5, n6⟩ := HCE.out w8 HB8.out)
              | fail)
          all_goals (
            go_wp2_with fail
            go_roundw
            case rel => exact ⟨k + 1, by go_num, by omega, by omega, (HFIN.out w8 HB8.out).1, (HFIN.out w8 HB8.out).2.1, (HFIN.out w8 HB8.out).2.2.1, (HFIN.out w8 HB8.out).2.2.2⟩
            case measure => simp [intOf]; omega)
        · subst e3
          go_upto_region 20 with (first | (go_at_call 12; refine Calls.mono (numT_any _ _) ?_; rintro e w' ⟨rfl, hw'⟩; have hw9 := hw'.symm; subst hw9; clear hw') | fail)
          clear p0 p1 p2 p3 n0 n1 n2 n3 n4 n5 n6
          obtain ⟨⟨p3, q0, q1, q2, q3, q4, q5, q6⟩, n0, n1, n2, n3, n4, n5, n6⟩ := HCE.out w7 (Below.refl _ _)
          have hrl : rb < w7.heap.size := (Array.getElem?_eq_some_iff.1 HP7.out).1
          go_region_held3 (fun w' => (w'.cell? ⟨rb, 3, none⟩ = some (.slice (some ⟨g2, 0, none⟩) 1 rc) ∧ w'.cell? ⟨g2, 0, none⟩ = some (.string n.p) ∧ w'.cell? ⟨g2, 1, none⟩ = some (.string D) ∧ w'.cell? ⟨g2, 2, none⟩ = some (.int .i64 n.v) ∧ w'.cell? ⟨g2, 3, none⟩ = some (.int .i64 n.m) ∧ w'.cell? ⟨g2, 4, none⟩ = some (.int .i64 n.c) ∧ w'.cell? ⟨g2, 5, none⟩ = some (.int .i64 n.o) ∧ w'.cell? ⟨g2, 6, none⟩ = some (.slice ka kn kc)) ∧ (w'.cell? ⟨nb, 0, none⟩ = some (.string n.p) ∧ w'.cell? ⟨nb, 1, none⟩ = some (.string n.d) ∧ w'.cell? ⟨nb, 2, none⟩ = some (.int .i64 n.v) ∧ w'.cell? ⟨nb, 3, none⟩ = some (.int .i64 n.m) ∧ w'.cell? ⟨nb, 4, none⟩ = some (.int .i64 n.c) ∧ w'.cell? ⟨nb, 5, none⟩ = some (.int .i64 n.o) ∧ w'.cell? ⟨nb, 6, none⟩ = some (.int .i64 n.k))) (first | go_keep | exact ⟨⟨p3, q0, q1, q2, q3, q4, q5, q6⟩, n0, n1, n2, n3, n4, n5, n6⟩)
            (first
              | (go_at_call 22; refine Calls.mono (HRD.out _ (below_drew0 _)) ?_
                 rintro e w8 ⟨rfl, hb8⟩
                 have HB8 : Hid (Below w7.heap.size w7 w8) := trans2 (below_drew0 _) hb8
                 clear hb8 p3 q0 q1 q2 q3 q4 q5 q6 n0 n1 n2 n3 n4 n5 n6
                 obtain ⟨⟨p3, q0, q1, q2, q3, q4, q5, q6⟩, n0, n1, n2, n3, n4, n5, n6⟩ := HCE.out w8 HB8.out)
              | fail)
          all_goals (
            go_wp2_with fail
            go_roundw
            case rel => exact ⟨k + 1, by go_num, by omega, by omega, (HFIN.out w8 HB8.out).1, (HFIN.out w8 HB8.out).2.1, (HFIN.out w8 HB8.out).2.2.1, (HFIN.out w8 HB8.out).2.2.2⟩
            case measure => simp [intOf]; omega)
        · skip
          go_upto_region 20 with (first | (go_at_call 12; refine Calls.mono (numT_any _ _) ?_; rintro e w' ⟨rfl, hw'⟩; have hw9 := hw'.symm; subst hw9; clear hw') | fail)
          clear p0 p1 p2 p3 n0 n1 n2 n3 n4 n5 n6
          obtain ⟨⟨p3, q0, q1, q2, q3, q4, q5, q6⟩, n0, n1, n2, n3, n4, n5, n6⟩ := HCE.out w7 (Below.refl _ _)
          have hrl : rb < w7.heap.size := (Array.getElem?_eq_some_iff.1 HP7.out).1
          go_region_held3 (fun w' => (w'.cell? ⟨rb, 3, none⟩ = some (.slice (some ⟨g2, 0, none⟩) 1 rc) ∧ w'.cell? ⟨g2, 0, none⟩ = some (.string n.p) ∧ w'.cell? ⟨g2, 1, none⟩ = some (.string D) ∧ w'.cell? ⟨g2, 2, none⟩ = some (.int .i64 n.v) ∧ w'.cell? ⟨g2, 3, none⟩ = some (.int .i64 n.m) ∧ w'.cell? ⟨g2, 4, none⟩ = some (.int .i64 n.c) ∧ w'.cell? ⟨g2, 5, none⟩ = some (.int .i64 n.o) ∧ w'.cell? ⟨g2, 6, none⟩ = some (.slice ka kn kc)) ∧ (w'.cell? ⟨nb, 0, none⟩ = some (.string n.p) ∧ w'.cell? ⟨nb, 1, none⟩ = some (.string n.d) ∧ w'.cell? ⟨nb, 2, none⟩ = some (.int .i64 n.v) ∧ w'.cell? ⟨nb, 3, none⟩ = some (.int .i64 n.m) ∧ w'.cell? ⟨nb, 4, none⟩ = some (.int .i64 n.c) ∧ w'.cell? ⟨nb, 5, none⟩ = some (.int .i64 n.o) ∧ w'.cell? ⟨nb, 6, none⟩ = some (.int .i64 n.k))) (first | go_keep | exact ⟨⟨p3, q0, q1, q2, q3, q4, q5, q6⟩, n0, n1, n2, n3, n4, n5, n6⟩)
            (first
              | (go_at_call 22; refine Calls.mono (HRD.out _ (below_drew0 _)) ?_
                 rintro e w8 ⟨rfl, hb8⟩
                 have HB8 : Hid (Below w7.heap.size w7 w8) := trans2 (below_drew0 _) hb8
                 clear hb8 p3 q0 q1 q2 q3 q4 q5 q6 n0 n1 n2 n3 n4 n5 n6
                 obtain ⟨⟨p3, q0, q1, q2, q3, q4, q5, q6⟩, n0, n1, n2, n3, n4, n5, n6⟩ := HCE.out w8 HB8.out)
              | fail)
          all_goals (
            go_wp2_with fail
            go_roundw
            case rel => exact ⟨k + 1, by go_num, by omega, by omega, (HFIN.out w8 HB8.out).1, (HFIN.out w8 HB8.out).2.1, (HFIN.out w8 HB8.out).2.2.1, (HFIN.out w8 HB8.out).2.2.2⟩
            case measure => simp [intOf]; omega)
    · obtain rfl : k = 8 := by omega
      have hR := HR.out
      rw [← HN.out] at hR
      go_wp2_with fail
      refine Calls.mono (nodes_tr _ _ _ _ _ HT.out) ?_
      rintro e w6 ⟨g3, cap3, rfl, hr6, hb6⟩
      rw [HN.out]
      have HB6 : Hid (Below W.heap.size W w6) := trans2 HB.out hb6
      have HSM : Hid _ := sameT_any w1.heap.size wr.heap.size g cap g3 cap3 T w6 (owns_chg hR (Chg.of_below hb6 (fun _ => False)) (fun _ _ => id)) hr6 (by have := HI.out.len; omega)
      rw [HN.out] at HSM
      clear hr6 hb6 hR
      go_wp2_with fail
      refine Calls.mono HSM.out ?_
      rintro e w7 ⟨rfl, hb7⟩
      have HB7 : Hid (Below W.heap.size W w7) := trans2 HB6.out hb7
      clear hb7
      go_wp2_with fail
      refine (knownT_any w7 (HG.out.below HB7.out)).mono ?_
      rintro e w9 ⟨rfl, hb9⟩
      have HB9 : Hid (Below W.heap.size W w9) := trans2 HB7.out hb9
      clear hb9
      go_wp2_with fail
      go_ret
      exact ⟨rfl, HB9.out⟩
end Go.Proofs.YtliafokjdngejaaGreatDoor
