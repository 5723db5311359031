/-
  WireLong: the walk.
-/
import Derived.Test.YtdjibjmhjofedaaWFrameP
import Derived.Deep.RegionHeld3
namespace Go.Proofs.Ytdjibjmhjofedaa
open Go.RowKit

set_option maxHeartbeats 3200000 in
set_option maxRecDepth 100000 in
theorem frame_over (b o c : Nat) (ps : List Pc) (w : World) (hc : ∀ (j : Nat) (p : Pc), ps[j]? = some p → w.cell? ⟨b, o + j, none⟩ = some p.val) (hm : 262144 < (bodyOf ps).length) (hm2 : (bodyOf ps).length ≤ 1000000) (hk : ps.length ≤ 1000000) :
    Calls Try.prog 20 #[.slice (some ⟨b, o, none⟩) ps.length c] w fun e w' => e = .returned (.tuple #[.slice none 0 0, .int .i64 2]) ∧ w' = w := by
  have HC : Hid _ := hc
  have HM : Hid _ := hm
  have HM2 : Hid _ := hm2
  clear hc hm hm2
  go_enter Try.func20, Try.ntmps20
  go_wp2
  go_loop [4, 12] (fun n i => ∃ k : Nat, n = .int .i64 (bodyOf (ps.take k)).length ∧ i = .int .i64 k ∧ k ≤ ps.length ∧ (bodyOf (ps.take k)).length ≤ 262144) (fun _ i => ps.length - (intOf i).toNat)
  case atStart => exact ⟨0, rfl, rfl, by omega, by rw [List.take_zero]; exact Nat.zero_le _⟩
  case round =>
    obtain ⟨k, rfl, rfl, hkk, hle0⟩ := hrel
    by_cases hlt : k < ps.length
    · obtain ⟨p, hp⟩ : ∃ p, ps[k]? = some p := ⟨ps[k], List.getElem?_eq_getElem hlt⟩
      have hc := HC.out k p hp
      have hst' : (bodyOf (ps.take (k + 1))).length = (bodyOf (ps.take k)).length + p.2.2.length := by rw [body_step hp, List.length_append]
      have hle := Nat.le_trans (body_le ps (k + 1)) HM2.out
      have HST : Hid _ := hst'
      obtain ⟨a1, c1, zs⟩ := p
      simp only at hst' HST
      unfold Pc.val at hc
      simp only at hc
      rw [hst'] at hle
      generalize (bodyOf (ps.take k)).length = N at hle hst' HST hle0 ⊢
      clear hp hst'
      by_cases hover : N + zs.length ≤ 262144
      · have ho : ¬ (262144 : Int) < (N : Int) + (zs.length : Int) := by omega
        go_wp2
        exact ⟨⟨k + 1, by rw [HST.out]; simp, by go_num, by omega, by rw [HST.out]; exact hover⟩, by simp [intOf]; omega⟩
      · have ho : (262144 : Int) < (N : Int) + (zs.length : Int) := by omega
        go_wp2
        go_ret2
        exact ⟨rfl, rfl⟩
    · exfalso
      obtain rfl : k = ps.length := by omega
      rw [List.take_length] at hle0
      have := HM.out
      omega

theorem long_far (n : Int) (f : Int) (w : World) (hn : -9223372036854775808 ≤ n ∧ n ≤ 9223372036854775807) (h : ¬ (262141 ≤ n ∧ n ≤ 262147)) :
    Calls Try.prog 6 #[.int .i64 n, .int .u8 f] w fun e w' => e = .returned (.bool true) ∧ Below w.heap.size w w' := by
  have HF : Hid _ := fun w => frame_none none 0 w
  rw [frame_len] at HF
  by_cases h1 : n < 262141
  · clear h hn
    go_enter Try.func6, Try.ntmps6
    go_wp2_with (first | (go_at_call 20; refine (HF.out _).mono ?_; rintro e w1 ⟨a1, c1, rfl, ho, hb⟩; have HB : Hid _ := hb; clear ho hb) | fail)
    go_ret
    exact ⟨rfl, HB.out⟩
  · have h2 : (262147 : Int) < n := by omega
    clear h hn
    go_enter Try.func6, Try.ntmps6
    go_wp2_with (first | (go_at_call 20; refine (HF.out _).mono ?_; rintro e w1 ⟨a1, c1, rfl, ho, hb⟩; have HB : Hid _ := hb; clear ho hb) | fail)
    go_ret
    exact ⟨rfl, HB.out⟩

theorem row_set {w : World} {base g cap n k : Nat} {ys : List Int} {y : Int} (h : w.ownsRow base 5 1 (.slice (some ⟨g, 0, none⟩) n cap) n (bv ys)) :
    (w.setCell ⟨g, k, none⟩ (.int .u8 y)).ownsRow base 5 1 (.slice (some ⟨g, 0, none⟩) n cap) n (bv (ys.set k y)) ∧ w.grownBy (w.setCell ⟨g, k, none⟩ (.int .u8 y)) (some g) := by
  have s := World.ownsRow.stored h k (.int .u8 y)
  refine ⟨?_, s.2⟩
  have e : bv (ys.set k y) = (bv ys).set k (.int .u8 y) := by unfold bv; rw [← List.map_set]
  rw [e]
  exact s.1
theorem Byt.set {ys : List Int} {k : Nat} {y : Int} (h : Byt ys) (hy : 0 ≤ y ∧ y < 256) : Byt (ys.set k y) := by
  intro z hz
  rcases List.mem_or_eq_of_mem_set hz with g | rfl
  · exact h z g
  · exact hy
theorem bys_row {w : World} {base n c : Nat} {a : Option Addr} {zs : List Int} (h : w.ownsRow base 5 1 (.slice a n c) n (bv zs)) : Bys w a zs ∧ n = zs.length := by
  obtain ⟨a', c', hv, hL, _, hn, _⟩ := bys_of_owns h
  simp only [Value.slice.injEq] at hv
  rw [hv.1]
  exact ⟨hL, hn⟩
theorem row_cap {w : World} {base n c : Nat} {a : Option Addr} {zs : List Int} (h : w.ownsRow base 5 1 (.slice a n c) n (bv zs)) : Bys w a zs ∧ zs.length ≤ c ∧ c ≤ maxLen := by
  obtain ⟨a', c', hv, hL, _, hn, h1, h2⟩ := bys_of_owns h
  simp only [Value.slice.injEq] at hv
  rw [hv.1, hv.2.2]
  exact ⟨hL, h1, h2⟩

/-- The two pieces of one list. -/
def halves (g n T : Nat) (ys : List Int) : List Pc := [(some ⟨g, 0, none⟩, n, ys.take T), (some ⟨g, T, none⟩, n - T, ys.drop T)]
theorem halves_body (g n T : Nat) (ys : List Int) : bodyOf (halves g n T ys) = ys := by
  unfold bodyOf halves
  simp
theorem halves_pcs {w : World} {g n T : Nat} {ys : List Int} (hx : Bys w (some ⟨g, 0, none⟩) ys) (hlt : g < w.heap.size) (hb : Byt ys) (hl : n = ys.length) (hT : T ≤ n) :
    Pcs (w.alloc (.cells #[.slice (some ⟨g, 0, none⟩) T n, .slice (some ⟨g, T, none⟩) (n - T) (n - T)] 22)) (some ⟨w.heap.size, 0, none⟩) (halves g n T ys) := by
  have al : Below w.heap.size w (w.alloc (.cells #[.slice (some ⟨g, 0, none⟩) T n, .slice (some ⟨g, T, none⟩) (n - T) (n - T)] 22)) := (Below.refl _ _).alloc (Nat.le_refl _) _
  have e1 : (ys.take T).length = T := by rw [List.length_take]; omega
  have e2 : (ys.drop T).length = n - T := by rw [List.length_drop]; omega
  have hd := hx.drop T hlt
  rw [Nat.zero_add] at hd
  refine ⟨.inr ⟨w.heap.size, 0, rfl, by simp, fun j p hp => ?_⟩, fun p hp => ?_⟩
  · have h := cell_two_new w (.slice (some ⟨g, 0, none⟩) T n) (.slice (some ⟨g, T, none⟩) (n - T) (n - T)) 22 j p.val (by
      unfold halves at hp
      match j, hp with
      | 0, h => simp at h; subst h; unfold Pc.val; simp only; rw [e1]; rfl
      | 1, h => simp at h; subst h; unfold Pc.val; simp only; rw [e2]; rfl
      | j + 2, h => simp at h)
    rw [addr_add] at h
    exact h
  · unfold halves at hp
    simp only [List.mem_cons, List.not_mem_nil, or_false] at hp
    rcases hp with rfl | rfl
    · exact ⟨(hx.take T).below al, hb.take T, fun h => by cases h⟩
    · exact ⟨hd.below al, hb.drop T, fun h => by cases h⟩

set_option maxHeartbeats 3200000 in
set_option maxRecDepth 100000 in
theorem long_near (n : Nat) (f : Int) (w : World) (h1 : 262141 ≤ n) (h2 : n ≤ 262147) (hf : 0 ≤ f ∧ f ≤ 255) :
    Calls Try.prog 6 #[.int .i64 n, .int .u8 f] w fun e w' => e = .returned (.bool true) ∧ Below w.heap.size w w' := by
  obtain ⟨i0, hi, hz0, hz1, hz2⟩ := info_parts Try.info5
  go_enter Try.func6, Try.ntmps6
  go_wp2_with (first | (at_make; refine wpList_make_full _ rfl _ _ 22 rfl w.heap.size 5 i0 (.int .u8 0) 1 Try.underlying22 hi hz0 hz1 _ _ _ _ n rfl rfl (by omega) (by omega) (by rw [hz2]; omega) (by unfold maxLen; omega) (Nat.le_refl _) ?_) | fail)
  intro w1 ho hg
  have ho1 : w1.ownsRow w.heap.size 5 1 (.slice (some ⟨w.heap.size, 0, none⟩) n n) n (bv (List.replicate n 0)) := by
    have e : (madeCells #[Value.int .u8 0] n).toList = bv (List.replicate n 0) := by
      unfold bv
      rw [List.map_replicate]
      exact toList_madeCells_one _ _
    rw [← e]
    simpa using ho
  have HO1 : Hid _ := ho1
  have HB1 : Hid (Below w.heap.size w w1) := (Below.refl _ _).grown hg (Nat.le_refl _) (fun k hk => by cases hk)
  clear ho ho1 hg
  go_wp2
  go_loopw [8] (fun i wr => ∃ (k : Nat) (ys : List Int), i = .int .i64 k ∧ k ≤ n + 96 ∧ Hid (Byt ys) ∧ Hid (wr.ownsRow w.heap.size 5 1 (.slice (some ⟨w.heap.size, 0, none⟩) n n) n (bv ys)) ∧ Hid (Below w.heap.size w wr)) (fun i _ => n + 97 - (intOf i).toNat)
  case atStart => exact ⟨0, List.replicate n 0, rfl, by omega, (fun z hz => by rw [List.mem_replicate] at hz; omega), HO1.out, HB1.out⟩
  case round =>
    obtain ⟨k, ys, rfl, hk, HY, HO, HB⟩ := hrel
    have hlen := (bys_row HO.out).2
    by_cases hlt : k < n
    · obtain ⟨x0, hx0⟩ : ∃ x0, ys[k]? = some x0 := ⟨ys[k]'(by omega), List.getElem?_eq_getElem (by omega)⟩
      have hcx := cells_of (bys_row HO.out).1 k x0 hx0
      rw [Nat.zero_add] at hcx
      have hfx := World.ownsRow.frozenAt HO.out k
      have hset := row_set (k := k) (y := f) HO.out
      have HO' : Hid _ := hset.1
      have HB' : Hid (Below w.heap.size w (wr.setCell ⟨w.heap.size, k, none⟩ (.int .u8 f))) := HB.out.grown hset.2 HB.out.size (fun j hj => by cases hj; exact Nat.le_refl _)
      have HY' : Hid (Byt (ys.set k f)) := Byt.set HY.out ⟨hf.1, by omega⟩
      have hlt' : (k : Int) < (n : Int) := by omega
      clear hset hx0 hlen
      go_wp2
      exact ⟨⟨k + 97, ys.set k f, by go_num, by omega, HY'.out, HO'.out, HB'.out⟩, by simp [intOf]; omega⟩
    · have hge : ¬ (k : Int) < (n : Int) := by omega
      have HLen : Hid _ := hlen
      clear hlen HO1 HB1
      obtain ⟨T, hT⟩ : ∃ T, n / 3 = T := ⟨_, rfl⟩
      have hTi : (n : Int) / 3 = (T : Int) := by omega
      have hTt : (n : Int).tdiv 3 = (T : Int) := by rw [Int.tdiv_eq_ediv_of_nonneg (by omega)]; exact hTi
      have hTw : IntKind.i64.wrap (T : Int) = (T : Int) := wraps_i64 _ (by omega) (by omega)
      have hTw2 : IntKind.i64.wrap ((n : Int).tdiv 3) = (T : Int) := by rw [hTt]; exact hTw
      have hTw3 : IntKind.i64.wrap ((n : Int) / 3) = (T : Int) := by rw [hTi]; exact hTw
      have hT0 : (0 : Int) ≤ (T : Int) := by omega
      have hT1 : (T : Int) ≤ (n : Int) := by omega
      have hT2 : ¬ n - T = 0 := by omega
      have hT3 : T < n := by omega
      have hT4 : ¬ n = T := by omega
      have HP : Hid (Pcs ((wr.alloc (.cells #[.slice (some ⟨w.heap.size, 0, none⟩) T n, .slice (some ⟨w.heap.size, T, none⟩) (n - T) (n - T)] 22)).drew) (some ⟨wr.heap.size, 0, none⟩) (halves w.heap.size n T ys)) := halves_pcs (w := wr) (T := T) (bys_row HO.out).1 (World.ownsRow.lt HO.out w.heap.size rfl).2 HY.out HLen.out (by omega)
      have HBa : Hid (Below w.heap.size w ((wr.alloc (.cells #[.slice (some ⟨w.heap.size, 0, none⟩) T n, .slice (some ⟨w.heap.size, T, none⟩) (n - T) (n - T)] 22)).drew)) := (HB.out.alloc HB.out.size _).drew
      have HXa : Hid (Bys ((wr.alloc (.cells #[.slice (some ⟨w.heap.size, 0, none⟩) T n, .slice (some ⟨w.heap.size, T, none⟩) (n - T) (n - T)] 22)).drew) (some ⟨w.heap.size, 0, none⟩) ys) := Bys.below (bys_row HO.out).1 (((Below.refl _ _).alloc (Nat.le_refl _) _).drew)
      clear hT
      by_cases hbig : n ≤ 262144
      · have hF : Calls Try.prog 20 #[.slice (some ⟨wr.heap.size, 0, none⟩) 2 2] ((wr.alloc (.cells #[.slice (some ⟨w.heap.size, 0, none⟩) T n, .slice (some ⟨w.heap.size, T, none⟩) (n - T) (n - T)] 22)).drew) fun e w' => ∃ a' c', e = .returned (.tuple #[.slice a' (n + 14) c', .int .i64 0]) ∧ (Bys w' a' (frameL ys) ∧ n + 14 ≤ c' ∧ c' ≤ maxLen) ∧ Below ((wr.alloc (.cells #[.slice (some ⟨w.heap.size, 0, none⟩) T n, .slice (some ⟨w.heap.size, T, none⟩) (n - T) (n - T)] 22)).drew).heap.size ((wr.alloc (.cells #[.slice (some ⟨w.heap.size, 0, none⟩) T n, .slice (some ⟨w.heap.size, T, none⟩) (n - T) (n - T)] 22)).drew) w' := by
          have := frame_any (some ⟨wr.heap.size, 0, none⟩) 2 (halves w.heap.size n T ys) _ HP.out (by rw [halves_body, ← HLen.out]; exact hbig) (by unfold halves; simp)
          rw [halves_body, frame_len, ← HLen.out] at this
          refine Calls.mono this ?_
          rintro e w' ⟨a', c', rfl, ho, hb⟩
          have hr := row_cap ho
          rw [frame_len, ← HLen.out] at hr
          exact ⟨a', c', rfl, hr, hb⟩
        have HF : Hid _ := hF
        clear hF HP
        go_wp2_with fail
        go_region_held3 (fun _ => True) (trivial)
          (first | (go_at_call 20; refine Calls.mono HF.out ?_; rintro e w3 ⟨a3, c3, rfl, hr3, hb3⟩; have HR3 : Hid _ := hr3; have HB3 : Hid (Below w.heap.size w w3) := trans2 HBa.out hb3; have HX3 : Hid (Bys w3 (some ⟨w.heap.size, 0, none⟩) ys) := Bys.below HXa.out hb3; clear hr3 hb3))
        have hy3 : Byt (frameL ys) := frame_byt HY.out (by rw [← HLen.out]; omega)
        have hfl : (frameL ys).length = n + 14 := by rw [frame_len, ← HLen.out]
        have hu := unf_frame HY.out (by rw [← HLen.out]; exact hbig)
        have HU : Hid _ := unframe_any a3 c3 (frameL ys) w3 HR3.out.1 hy3 (by rw [hfl]; exact HR3.out.2.1) HR3.out.2.2 (by omega)
        rw [hu.1, hu.2, hfl, ← HLen.out] at HU
        clear hy3 hfl hu HF HBa HXa
        go_wp2_with fail
        refine Calls.mono HU.out ?_
        rintro e w4 ⟨a4, c4, rfl, ho4, hb4⟩
        have HB4 : Hid (Below w.heap.size w w4) := trans2 HB3.out hb4
        have HX4 : Hid (Bys w4 (some ⟨w.heap.size, 0, none⟩) ys) := Bys.below HX3.out hb4
        have HY4 : Hid (Bys w4 a4 ys) := (bys_row ho4).1
        clear ho4 hb4 HU
        have HSm : Hid _ := same_is (c := c4) (d := n) HY4.out HX4.out (by rw [← HLen.out]; unfold maxLen; omega)
        rw [decide_eq_true rfl, ← HLen.out] at HSm
        go_wp2_with fail
        refine Calls.mono HSm.out ?_
        rintro e w5 ⟨rfl, hb5⟩
        have HB5 : Hid (Below w.heap.size w w5) := trans2 HB4.out hb5
        clear hb5 HSm
        go_wp2
        go_ret
        exact ⟨rfl, HB5.out⟩
      · have hF : Calls Try.prog 20 #[.slice (some ⟨wr.heap.size, 0, none⟩) 2 2] ((wr.alloc (.cells #[.slice (some ⟨w.heap.size, 0, none⟩) T n, .slice (some ⟨w.heap.size, T, none⟩) (n - T) (n - T)] 22)).drew) fun e w' => e = .returned (.tuple #[.slice none 0 0, .int .i64 2]) ∧ w' = (wr.alloc (.cells #[.slice (some ⟨w.heap.size, 0, none⟩) T n, .slice (some ⟨w.heap.size, T, none⟩) (n - T) (n - T)] 22)).drew := by
          rcases HP.out.1 with h | ⟨b', o', ha, _, hcell⟩
          · cases h
          · have e := Option.some.inj ha
            simp only [Addr.mk.injEq, and_true] at e
            obtain ⟨rfl, rfl⟩ := e
            exact frame_over wr.heap.size 0 2 (halves w.heap.size n T ys) _ hcell (by rw [halves_body, ← HLen.out]; omega) (by rw [halves_body, ← HLen.out]; omega) (by unfold halves; simp)
        have HF : Hid _ := hF
        have hbig' : (262144 : Int) < (n : Int) := by omega
        clear hF HP
        go_wp2_with fail
        go_region_held3 (fun _ => True) (trivial)
          (first | (go_at_call 20; refine Calls.mono HF.out ?_; rintro e w3 ⟨rfl, rfl⟩))
        go_wp2
        go_ret
        exact ⟨rfl, HBa.out⟩

theorem long_walk (n : Int) (f : Int) (w : World) (hn : -9223372036854775808 ≤ n ∧ n ≤ 9223372036854775807) (hf : 0 ≤ f ∧ f ≤ 255) :
    Calls Try.prog 6 #[.int .i64 n, .int .u8 f] w fun e w' => e = .returned (.bool true) ∧ Below w.heap.size w w' := by
  by_cases h : 262141 ≤ n ∧ n ≤ 262147
  · obtain ⟨m, rfl⟩ := Int.eq_ofNat_of_zero_le (show 0 ≤ n by omega)
    exact long_near m f w (by omega) (by omega) hf
  · exact long_far n f w hn h
end Go.Proofs.Ytdjibjmhjofedaa
