/-
  TreePart: the walk.
-/
import Derived.Test.YtliafokjdngejabGreatDoorTPartL
import Derived.Test.YtliafokjdngejabGreatDoorTKnown
import Derived.Deep.AppendLies
namespace Go.Proofs.YtliafokjdngejabGreatDoor
open Go.RowKit Go.Maps Go.WideShapes
set_option linter.unusedVariables false
set_option linter.unusedSimpArgs false
attribute [local go_sem ↓] Go.wp_at_zero Go.wp_at_succ

theorem numP_any (e0 : Int) (w : World) : Calls Tryz.prog 11 #[.int .i64 e0] w fun e w' => e = .returned (.int .i64 e0) ∧ w' = w := numT_any e0 w
/-- A part, for all kinds of watches, at any text. -/
theorem part_all (B tb q : Nat) (T : List Nd) (k : Int) (p : ByteArray) (w : World) (hg : Ground w) (h : TrAt w B tb q T) (hk : k = 1 ∨ k = 2 ∨ k = 3) (L : List SnT) (hL : L = if (fnd T p).isSome = true then parT T k p else []) (c : Int) (hc : c = if (parse p).1 = 0 then 0 else 10) :
    Calls Tryz.prog 10 #[.pointer (some ⟨tb, 0, none⟩), .string p, .int .i64 k] w fun e w' => ∃ a cap, e = .returned (.tuple #[.slice a L.length cap, .int .i64 c]) ∧ w'.ownsRow w.heap.size 38 3 (.slice a L.length cap) L.length (L.flatMap SnT.cs) ∧ Below w.heap.size w w' := by
  by_cases hp : (parse p).1 = 0
  · have hL2 : L = parT T k p := by
      rw [hL]
      by_cases hf : (fnd T p).isSome = true
      · rw [if_pos hf]
      · rw [if_neg hf]
        exact (part_none h.snd hp (by simpa using hf) k).symm
    subst hL2
    rw [if_pos hp] at hc
    subst hc
    exact part_tr B tb q T k p w hg h hp hk
  · have hf : (fnd T p).isSome = false := by
      cases hf : fnd T p with
      | none => rfl
      | some x =>
        have h1 := fnd_some hf
        have h2 := (h.snd.inv.nd x h1.1).1
        rw [h1.2] at h2
        exact absurd h2 hp
    rw [if_neg (by rw [hf]; simp)] at hL
    subst hL
    rw [if_neg hp] at hc
    subst hc
    refine Calls.mono (part_bad B tb q T k p w hg h hp) ?_
    rintro e w' ⟨rfl, hb⟩
    exact ⟨none, 0, rfl, World.ownsRow_nil _ _ _ _, hb⟩
/-- The first ones of a part. -/
def parQ (T : List Nd) (k : Int) (p : ByteArray) (q : Nat) : List SnT := parT (T.take q) k p
theorem parQ_snoc {T : List Nd} {k : Int} {p : ByteArray} {q : Nat} {x : Nd} (hx : T[q]? = some x) : parQ T k p (q + 1) = parQ T k p q ++ (if covers k p 1 x.p = true then [snN k x] else []) := by
  unfold parQ parT
  rw [List.take_add_one, hx, List.filter_append, List.map_append]
  by_cases h : covers k p 1 x.p = true <;> simp [h]

set_option maxHeartbeats 8000000 in
set_option maxRecDepth 100000 in
theorem TreePart_walk (W : World) (a : Option Addr) (c : Nat) (l : List StT) (p : ByteArray) (hl : l.length ≤ maxLen) (hs : Steps W a l) (hg : GroundT W) (hgc : GroundC W) :
    Calls Tryz.prog 3 #[.slice a l.length c, .string p] W fun e w' => e = .returned (.bool true) ∧ Below W.heap.size W w' := by
  obtain ⟨i0, hi0, hz0, hz1, hz2⟩ := info_parts Tryz.infoSe
  have HG : Hid (GroundT W) := hg
  have HPD : Hid _ := played_any W a c l hl hs hg hgc
  clear hs hg hgc hl
  go_enter Tryz.func3, Tryz.ntmps3
  go_wp2_with fail
  refine Calls.mono HPD.out ?_
  rintro e w1 ⟨tb, rfl, ht1, hb1⟩
  obtain ⟨T, hT⟩ : ∃ T, runL [rootN] (l.take 120) = T := ⟨_, rfl⟩
  rw [hT] at ht1
  have HT1 : Hid (TrAt w1 W.heap.size tb 120 T) := ht1
  have HB1 : Hid (Below W.heap.size W w1) := hb1
  have HSN : Hid (Snd T) := ht1.snd
  clear hT ht1 hb1 HPD
  go_wp2_with fail
  refine Calls.mono (nodes_tr _ _ _ _ _ HT1.out) ?_
  rintro e w2 ⟨g, cap, rfl, hr2, hb2⟩
  have HT2 : Hid (TrAt w2 W.heap.size tb 120 T) := HT1.out.below hb2
  have HB2 : Hid (Below W.heap.size W w2) := trans2 HB1.out hb2
  have HR2 : Hid (w2.ownsRow w1.heap.size 32 7 (.slice (some ⟨g, 0, none⟩) T.length cap) T.length (T.flatMap Nd.cs)) := hr2
  clear hr2 hb2
  have HPS : Hid (∀ W', Ground W' → Calls Tryz.prog 7 #[.string p] W' (Parsed p W')) := fun W' h => parse_any p W' h
  obtain ⟨pc, hpc⟩ : ∃ pc, (parse p).1 = pc := ⟨_, rfl⟩
  have HPC : Hid ((parse p).1 = pc) := hpc
  clear hpc
  go_wp2_with fail
  refine Calls.mono (HPS.out _ (HG.out.below HB2.out).toGround) ?_
  rintro e w3 ⟨pa, pcap, rfl, _, hb3⟩
  rw [HPC.out]
  have HB3 : Hid (Below w2.heap.size w2 w3) := hb3
  have HR3 : Hid (w3.ownsRow w1.heap.size 32 7 (.slice (some ⟨g, 0, none⟩) T.length cap) T.length (T.flatMap Nd.cs)) := owns_chg HR2.out (Chg.of_below hb3 (fun _ => False)) (fun _ _ => id)
  clear hb3
  have HFI : Hid _ := findT_any w1.heap.size g cap T p w3 HR3.out (by have := HSN.out.inv.len; omega)
  rw [fndV_n] at HFI
  obtain ⟨n, hn⟩ : ∃ n, (fnd T p).getD zN = n := ⟨_, rfl⟩
  obtain ⟨th, hth⟩ : ∃ th, (fnd T p).isSome = th := ⟨_, rfl⟩
  have HTH : Hid ((fnd T p).isSome = th) := hth
  rw [hn, hth] at HFI
  clear hn hth
  go_wp2_with fail
  refine Calls.mono HFI.out ?_
  rintro e w4 ⟨rfl, hb4⟩
  have HB4 : Hid (Below w2.heap.size w2 w4) := trans2 HB3.out hb4
  clear hb4
  go_upto_region 7 with fail
  obtain ⟨w5, hw5⟩ : ∃ y, w4.alloc (.cells #[.string n.p, .string n.d, .int .i64 n.v, .int .i64 n.m, .int .i64 n.c, .int .i64 n.o, .int .i64 n.k] 32) = y := ⟨_, rfl⟩
  have HB5 : Hid (Below w2.heap.size w2 w5) := by rw [← hw5]; exact HB4.out.alloc HB4.out.size _
  rw [hw5]
  clear hw5
  have HT5 : Hid (TrAt w5 W.heap.size tb 120 T) := HT2.out.below HB5.out
  have HR5 : Hid (w5.ownsRow w1.heap.size 32 7 (.slice (some ⟨g, 0, none⟩) T.length cap) T.length (T.flatMap Nd.cs)) := owns_chg HR2.out (Chg.of_below HB5.out (fun _ => False)) (fun _ _ => id)
  have HBW5 : Hid (Below W.heap.size W w5) := trans2 HB2.out HB5.out
  have hgl : g < w5.heap.size := (HR5.out.lt g rfl).2
  have HND : Hid (∀ (wr : World), Below w5.heap.size w5 wr → ∀ q j x v, T[q]? = some x → x.cs[j]? = some v → wr.cell? ⟨g, q * 7 + j, none⟩ = some v) := fun wr hb q j x v hx hv => by rw [hb.cell (p := ⟨g, q * 7 + j, none⟩) hgl]; exact nd_cell HR5.out hx hv
  obtain ⟨N, hN⟩ : ∃ N, T.length = N := ⟨_, rfl⟩
  have HN : Hid (T.length = N) := hN
  have hN64 : N ≤ 64 := by rw [← hN]; exact HSN.out.inv.len
  rw [hN]
  clear hN HR5 HR3 HR2 HB5 HB4 HB3 HT2 HB2 HFI HPS HT1 HB1
  go_wp2_with fail
  go_loopw [11] (fun i wr => ∃ k : Nat, i = .int .i64 k ∧ 1 ≤ k ∧ k ≤ 4 ∧ Hid (Below w5.heap.size w5 wr)) (fun i _ => 4 - (intOf i).toNat)
  case atStart => exact ⟨1, rfl, by omega, by omega, Below.refl _ _⟩
  case round =>
    obtain ⟨k, rfl, hk1, hk4, HB⟩ := hrel
    by_cases hk : k ≤ 3
    · have hk' : (k : Int) ≤ 3 := by omega
      obtain ⟨L, hL⟩ : ∃ L, L = (if (fnd T p).isSome = true then parT T k p else []) := ⟨_, rfl⟩
      obtain ⟨cd, hcd⟩ : ∃ cd : Int, cd = (if (parse p).1 = 0 then 0 else 10) := ⟨_, rfl⟩
      have HPT : Hid (∀ w', Below w5.heap.size w5 w' → _) := fun w' hb => part_all W.heap.size tb 120 T k p w' (HG.out.below (trans2 HBW5.out hb)).toGround (HT5.out.below hb) (by omega) L hL cd hcd
      have HLn : Hid (L.length ≤ 64) := by
        show _ ≤ _
        rw [hL]
        split
        · exact Nat.le_trans (parT_len _ _ _) (by rw [HN.out]; exact hN64)
        · exact Nat.zero_le _
      have HCD : Hid (cd = (if (parse p).1 = 0 then 0 else 10)) := hcd
      have HLE : Hid (L = (if th = true then parQ T k p N else [])) := by
        show _ = _
        rw [hL, HTH.out]
        unfold parQ
        rw [List.take_of_length_le (by rw [HN.out]; omega)]
      clear hL hcd
      go_wp2_with fail
      go_loopw [12, 13] (fun v i wr => ∃ q : Nat, i = .int .i64 q ∧ q ≤ N ∧ Hid (wr.ownsRow w5.heap.size 38 3 v (if th = true then parQ T k p q else []).length ((if th = true then parQ T k p q else []).flatMap SnT.cs)) ∧ Hid (Below w5.heap.size w5 wr)) (fun _ i _ => N - (intOf i).toNat)
      case atStart => exact ⟨0, rfl, Nat.zero_le _, by have e : (if th = true then parQ T k p 0 else []) = [] := (by cases th <;> rfl); show World.ownsRow _ _ _ _ _ _ _; rw [e]; exact World.ownsRow_nil _ _ _ _, HB.out⟩
      case round =>
        clear HB
        obtain ⟨q, rfl, hq, HO, HB⟩ := hrel
        by_cases hlt : q < N ∧ th = true
        · obtain ⟨hlt, rfl⟩ := hlt
          have hlt' : (q : Int) < (N : Int) := by omega
          obtain ⟨x, hx⟩ : ∃ x, T[q]? = some x := ⟨T[q]'(by rw [HN.out]; exact hlt), List.getElem?_eq_getElem _⟩
          have n0 : wr.cell? ⟨g, q * 7, none⟩ = some (.string x.p) := HND.out wr HB.out q 0 x _ hx rfl
          have HCV : Hid _ := covers_any k 1 p x.p wr (HG.out.below (trans2 HBW5.out HB.out)).toGround
          have HSQ : Hid (parQ T k p (q + 1) = parQ T k p q ++ (if covers k p 1 x.p = true then [snN k x] else [])) := parQ_snoc hx
          have HX : Hid (T[q]? = some x) := hx
          have HO1 : Hid (wr.ownsRow w5.heap.size 38 3 u12 (parQ T k p q).length ((parQ T k p q).flatMap SnT.cs)) := by
            have h9 := HO.out
            rw [if_pos rfl] at h9
            exact h9
          have HLL : Hid ((parQ T k p q).length ≤ 64) := Nat.le_trans (parT_len _ _ _) (by rw [List.length_take]; omega)
          obtain ⟨Q, hQ⟩ : ∃ Q, parQ T k p q = Q := ⟨_, rfl⟩
          rw [hQ] at HO1 HSQ HLL
          clear hx hQ HO
          obtain ⟨cv, hcv⟩ : ∃ cv, covers k p 1 x.p = cv := ⟨_, rfl⟩
          rw [hcv] at HCV HSQ
          clear hcv
          go_wp2_with fail
          refine Calls.mono HCV.out ?_
          rintro e w6 ⟨rfl, hb6⟩
          have HB6 : Hid (Below w5.heap.size w5 w6) := trans2 HB.out hb6
          have HO6 : Hid (w6.ownsRow w5.heap.size 38 3 u12 Q.length (Q.flatMap SnT.cs)) := owns_chg HO1.out (Chg.of_below hb6 (fun _ => False)) (fun _ _ => id)
          clear hb6 n0
          cases cv with
          | false =>
            have HE : Hid (parQ T k p (q + 1) = Q) := by show _ = _; rw [HSQ.out]; simp
            go_wp2_with fail
            go_roundw
            case rel => exact ⟨q + 1, by go_num, by omega, by show World.ownsRow _ _ _ _ _ _ _; rw [HE.out]; exact HO6.out, HB6.out⟩
            case measure => simp [intOf]; omega
          | true =>
            have HE : Hid (parQ T k p (q + 1) = Q ++ [snN k x]) := by show _ = _; rw [HSQ.out]; simp
            have n0 : w6.cell? ⟨g, q * 7, none⟩ = some (.string x.p) := HND.out w6 HB6.out q 0 x _ HX.out rfl
            have n1 := HND.out w6 HB6.out q 1 x _ HX.out rfl
            have n2 := HND.out w6 HB6.out q 2 x _ HX.out rfl
            have hgw : g < w6.heap.size := Nat.lt_of_lt_of_le hgl HB6.out.size
            go_upto_region 15 with fail
            go_region
            have hsz : w6.heap.size < (w6.alloc (.cells #[.string x.p, .string x.d, .int .i64 x.v] 38)).drew.heap.size := by simp
            by_cases hk2 : (k : Int) = 2
            · have HK2 : Hid ((k : Int) = 2) := hk2
              have hkb : ((k : Int) == 2) = true := by simpa using hk2
              have n0' : (w6.alloc (.cells #[.string x.p, .string x.d, .int .i64 x.v] 38)).drew.cell? ⟨g, q * 7, none⟩ = some (.string x.p) := HND.out _ (below_drew (HB6.out.alloc HB6.out.size _)) q 0 x _ HX.out rfl
              obtain ⟨b0, b1, b2⟩ := cells_3 (show (w6.alloc (.cells #[.string x.p, .string x.d, .int .i64 x.v] 38)).drew.heap[w6.heap.size]? = some (.cells #[.string x.p, .string x.d, .int .i64 x.v] 38 (0, 0)) from heap_alloc_new w6 _)
              have hfb := free_3 (show (w6.alloc (.cells #[.string x.p, .string x.d, .int .i64 x.v] 38)).drew.heap[w6.heap.size]? = some (.cells #[.string x.p, .string x.d, .int .i64 x.v] 38 (0, 0)) from heap_alloc_new w6 _)
              clear hk2 n0 n1 n2
              go_upto_region 18 with fail
              obtain ⟨w8, hw8⟩ : ∃ y, (w6.alloc (.cells #[.string x.p, .string ⟨#[]⟩, .int .i64 0] 38)).drew = y := ⟨_, rfl⟩
              have HB8 : Hid (Below w5.heap.size w5 w8) := by rw [← hw8]; exact below_drew (HB6.out.alloc HB6.out.size _)
              have HO8 : Hid (w8.ownsRow w5.heap.size 38 3 u12 Q.length (Q.flatMap SnT.cs)) := by rw [← hw8]; exact owns_chg HO6.out (Chg.of_below (below_drew ((Below.refl _ _).alloc (Nat.le_refl _) _)) (fun _ => False)) (fun _ _ => id)
              have HX8 : Hid (w8.heap[w6.heap.size]? = some (.cells #[.string x.p, .string ⟨#[]⟩, .int .i64 0] 38 (0, 0))) := by rw [← hw8]; exact heap_alloc_new w6 _
              rw [hw8]
              have hs8 := HB8.out.size
              have h68 : w6.heap.size < w8.heap.size := (Array.getElem?_eq_some_iff.1 HX8.out).1
              obtain ⟨d0, d1, d2⟩ := cells_3 HX8.out
              clear hw8
              go_wp2_with (first
                | (at_builtin; refine wpList_append_lies _ rfl _ _ _ rfl w5.heap.size 38 i0 _ 3 40 Tryz.underlying35 hi0 hz0 hz1 hz2 rfl (by omega) u12 Q.length (Q.flatMap SnT.cs) rfl (World.ownsRow.alloc HO8.out _) ⟨w8.heap.size, 0, none⟩ 1 1 [.string x.p, .string ⟨#[]⟩, .int .i64 0] rfl rfl (World.news_of_block (cs := #[.string x.p, .string ⟨#[]⟩, .int .i64 0]) (t := 38) (fr := (0, 0)) (heap_alloc_new w8 _)) (by simp [Value.oneCell']) (by have := HLL.out; omega) (by have := HLL.out; unfold maxLen; omega) (by have := HLL.out; omega) (by simp; omega) (w8.heap.size + 1) (by simp) ?_
                   intro g4 cap4 w9 hown9 hgrow9 hat9 hlt9
                   have HN9 : Hid (w9.ownsRow w5.heap.size 38 3 (.slice (some ⟨g4, 0, none⟩) (Q.length + 1) cap4) (Q.length + 1) (Q.flatMap SnT.cs ++ [.string x.p, .string ⟨#[]⟩, .int .i64 0])) := hown9
                   have HB9 : Hid (Below w5.heap.size w5 w9) := HB8.out.trans (((Below.refl _ _).alloc (by omega) _).grown hgrow9 (by simp; omega) (fun j hj => (HO8.out.lt j hj).1))
                   clear hown9 hgrow9 hat9 hlt9)
                | fail)
              go_roundw
              case rel => exact ⟨q + 1, by go_num, by omega, by show World.ownsRow _ _ _ _ _ _ _; rw [HE.out, List.flatMap_append, List.length_append]; have h9 := HN9.out; simpa [snN, sd, sv, HK2.out] using h9, HB9.out⟩
              case measure => simp [intOf]; omega
            · have HK2 : Hid (¬ (k : Int) = 2) := hk2
              have hkb : ((k : Int) == 2) = false := by simpa using hk2
              clear hk2 n0 n1 n2
              go_upto_region 18 with fail
              obtain ⟨w8, hw8⟩ : ∃ y, (w6.alloc (.cells #[.string x.p, .string x.d, .int .i64 x.v] 38)).drew = y := ⟨_, rfl⟩
              have HB8 : Hid (Below w5.heap.size w5 w8) := by rw [← hw8]; exact below_drew (HB6.out.alloc HB6.out.size _)
              have HO8 : Hid (w8.ownsRow w5.heap.size 38 3 u12 Q.length (Q.flatMap SnT.cs)) := by rw [← hw8]; exact owns_chg HO6.out (Chg.of_below (below_drew ((Below.refl _ _).alloc (Nat.le_refl _) _)) (fun _ => False)) (fun _ _ => id)
              have HX8 : Hid (w8.heap[w6.heap.size]? = some (.cells #[.string x.p, .string x.d, .int .i64 x.v] 38 (0, 0))) := by rw [← hw8]; exact heap_alloc_new w6 _
              rw [hw8]
              have hs8 := HB8.out.size
              have h68 : w6.heap.size < w8.heap.size := (Array.getElem?_eq_some_iff.1 HX8.out).1
              obtain ⟨d0, d1, d2⟩ := cells_3 HX8.out
              clear hw8
              go_wp2_with (first
                | (at_builtin; refine wpList_append_lies _ rfl _ _ _ rfl w5.heap.size 38 i0 _ 3 40 Tryz.underlying35 hi0 hz0 hz1 hz2 rfl (by omega) u12 Q.length (Q.flatMap SnT.cs) rfl (World.ownsRow.alloc HO8.out _) ⟨w8.heap.size, 0, none⟩ 1 1 [.string x.p, .string x.d, .int .i64 x.v] rfl rfl (World.news_of_block (cs := #[.string x.p, .string x.d, .int .i64 x.v]) (t := 38) (fr := (0, 0)) (heap_alloc_new w8 _)) (by simp [Value.oneCell']) (by have := HLL.out; omega) (by have := HLL.out; unfold maxLen; omega) (by have := HLL.out; omega) (by simp; omega) (w8.heap.size + 1) (by simp) ?_
                   intro g4 cap4 w9 hown9 hgrow9 hat9 hlt9
                   have HN9 : Hid (w9.ownsRow w5.heap.size 38 3 (.slice (some ⟨g4, 0, none⟩) (Q.length + 1) cap4) (Q.length + 1) (Q.flatMap SnT.cs ++ [.string x.p, .string x.d, .int .i64 x.v])) := hown9
                   have HB9 : Hid (Below w5.heap.size w5 w9) := HB8.out.trans (((Below.refl _ _).alloc (by omega) _).grown hgrow9 (by simp; omega) (fun j hj => (HO8.out.lt j hj).1))
                   clear hown9 hgrow9 hat9 hlt9)
                | fail)
              go_roundw
              case rel => exact ⟨q + 1, by go_num, by omega, by show World.ownsRow _ _ _ _ _ _ _; rw [HE.out, List.flatMap_append, List.length_append]; have h9 := HN9.out; simpa [snN, sd, sv, HK2.out] using h9, HB9.out⟩
              case measure => simp [intOf]; omega
        · have hcase : ¬ (q : Int) < (N : Int) ∨ ((q : Int) < (N : Int) ∧ th = false) := by
            by_cases h1 : q < N
            · right
              refine ⟨by omega, ?_⟩
              cases th with
              | false => rfl
              | true => exact absurd ⟨h1, rfl⟩ hlt
            · left; omega
          have HOL : Hid (wr.ownsRow w5.heap.size 38 3 u12 L.length (L.flatMap SnT.cs)) := by
            have h9 := HO.out
            have e : (if th = true then parQ T k p q else []) = L := by
              rw [HLE.out]
              rcases hcase with h1 | ⟨_, rfl⟩
              · obtain rfl : q = N := by omega
                rfl
              · rfl
            rw [e] at h9
            exact h9
          have HPT2 : Hid _ := HPT.out wr HB.out
          clear HO hlt
          have hfin : ∀ W' : World, Below w5.heap.size w5 W' → Hid (Below w5.heap.size w5 W') := fun _ h => h
          have hpcase : (pc = 0 ∧ cd = 0) ∨ ((pc == 0) = false ∧ cd = 10) := by
            have h9 := HCD.out
            rw [HPC.out] at h9
            by_cases h0 : pc = 0
            · exact .inl ⟨h0, by rw [h9, if_pos h0]⟩
            · exact .inr ⟨by simpa using h0, by rw [h9, if_neg h0]⟩
          rcases hcase with h1 | ⟨h1, h2⟩
          · rcases hpcase with ⟨rfl, rfl⟩ | ⟨e0, rfl⟩
            all_goals (
              go_wp2_with fail
              refine Calls.mono HPT2.out ?_
              rintro e w6 ⟨pa2, pcap2, rfl, hr6, hb6⟩
              have HSE : Hid _ := seenT_any _ _ (.slice pa2 L.length pcap2) u12 L w6 hr6 (owns_chg HOL.out (Chg.of_below hb6 (fun _ => False)) (fun _ _ => id)) (by have := HLn.out; omega)
              have HB6 : Hid (Below w5.heap.size w5 w6) := trans2 HB.out hb6
              clear hr6 hb6
              go_wp2_with (first | (go_at_call 11; refine Calls.mono (numT_any _ _) ?_; rintro e w' ⟨rfl, hw'⟩; have hw9 := hw'.symm; subst hw9; clear hw') | fail)
              refine Calls.mono HSE.out ?_
              rintro e w7 ⟨rfl, hb7⟩
              have HB7 : Hid (Below w5.heap.size w5 w7) := trans2 HB6.out hb7
              clear hb7
              go_wp2_with fail
              go_roundw
              case rel => exact ⟨k + 1, by go_num, by omega, by omega, HB7.out⟩
              case measure => simp [intOf]; omega)
          · subst h2
            rcases hpcase with ⟨rfl, rfl⟩ | ⟨e0, rfl⟩
            all_goals (
              go_wp2_with fail
              refine Calls.mono HPT2.out ?_
              rintro e w6 ⟨pa2, pcap2, rfl, hr6, hb6⟩
              have HSE : Hid _ := seenT_any _ _ (.slice pa2 L.length pcap2) u12 L w6 hr6 (owns_chg HOL.out (Chg.of_below hb6 (fun _ => False)) (fun _ _ => id)) (by have := HLn.out; omega)
              have HB6 : Hid (Below w5.heap.size w5 w6) := trans2 HB.out hb6
              clear hr6 hb6
              go_wp2_with (first | (go_at_call 11; refine Calls.mono (numT_any _ _) ?_; rintro e w' ⟨rfl, hw'⟩; have hw9 := hw'.symm; subst hw9; clear hw') | fail)
              refine Calls.mono HSE.out ?_
              rintro e w7 ⟨rfl, hb7⟩
              have HB7 : Hid (Below w5.heap.size w5 w7) := trans2 HB6.out hb7
              clear hb7
              go_wp2_with fail
              go_roundw
              case rel => exact ⟨k + 1, by go_num, by omega, by omega, HB7.out⟩
              case measure => simp [intOf]; omega)
    · obtain rfl : k = 4 := by omega
      have hroot : (parse pRt).1 = 0 := by kernel_rfl
      go_wp2_with fail
      refine Calls.mono (part_arg W.heap.size tb 120 T 0 pRt wr (HG.out.below (trans2 HBW5.out HB.out)).toGround (HT5.out.below HB.out) hroot (by omega)) ?_
      rintro e w6 ⟨rfl, hb6⟩
      have HB6 : Hid (Below w5.heap.size w5 w6) := trans2 HB.out hb6
      clear hb6
      go_wp2_with fail
      refine Calls.mono (part_arg W.heap.size tb 120 T 4 pRt w6 (HG.out.below (trans2 HBW5.out HB6.out)).toGround (HT5.out.below HB6.out) hroot (by omega)) ?_
      rintro e w7 ⟨rfl, hb7⟩
      have HB7 : Hid (Below W.heap.size W w7) := trans2 (trans2 HBW5.out HB6.out) hb7
      clear hb7
      go_wp2_with (first | (go_at_call 11; refine Calls.mono (numT_any _ _) ?_; rintro e w' ⟨rfl, hw'⟩; have hw9 := hw'.symm; subst hw9; clear hw') | fail)
      refine (knownT_any w7 (HG.out.below HB7.out)).mono ?_
      rintro e w9 ⟨rfl, hb9⟩
      have HB9 : Hid (Below W.heap.size W w9) := trans2 HB7.out hb9
      clear hb9
      go_wp2_with fail
      go_ret
      exact ⟨rfl, HB9.out⟩
end Go.Proofs.YtliafokjdngejabGreatDoor
