/-
  RingTells: the walk.
-/
import Derived.Test.YtonppfnjeomcoaaRFilled
namespace Go.Proofs.Ytonppfnjeomcoaa
open Go.RowKit Classical
set_option linter.unusedVariables false
set_option linter.unusedSimpArgs false

set_option maxHeartbeats 3200000 in
set_option maxRecDepth 100000 in
theorem tells_out (room n stamp most : Int) (w : World) (h : room < 1 ∨ (1 ≤ room ∧ 64 < room) ∨ (1 ≤ room ∧ room ≤ 64 ∧ n < 0) ∨ (1 ≤ room ∧ room ≤ 64 ∧ 0 ≤ n ∧ 200 < n)) :
    Calls Try.prog 4 #[.int .i64 room, .int .i64 n, .int .i64 stamp, .int .i64 most] w fun e w' => e = .returned (.bool true) ∧ Below w.heap.size w w' := by
  have HB : Hid _ := begins_any w
  go_enter Try.func4, Try.ntmps4
  go_wp2_with fail
  refine Calls.mono HB.out ?_
  rintro e w1 ⟨rfl, hb1⟩
  have HB1 : Hid (Below w.heap.size w w1) := hb1
  clear hb1 HB
  rcases h with h | ⟨h1, h2⟩ | ⟨h1, h2, h3⟩ | ⟨h1, h2, h3, h4⟩
  all_goals
    go_wp2_with fail
    go_ret
    exact ⟨rfl, HB1.out⟩
theorem ents_cap {w : World} {a : Option Addr} {n c : Nat} {P : List PEnt} (h : EntsAt w (.slice a n c) P) : P.length ≤ c := by
  rcases h.row.2 with ⟨h0, h1⟩ | ⟨g, cap, cur, hv, _, _, hn, _⟩
  · rw [h1]; exact Nat.zero_le _
  · cases hv
    exact hn
theorem ents_addr {w : World} {a : Option Addr} {n c : Nat} {P : List PEnt} (h : EntsAt w (.slice a n c) P) : (a = none ∧ c = 0) ∨ ∃ g, a = some ⟨g, 0, none⟩ := by
  obtain ⟨a', c', hv, h0, h1⟩ := owns_form h.row
  cases hv
  cases a with
  | none => exact .inl ⟨rfl, (h0 rfl).1⟩
  | some ad =>
    obtain ⟨g, rfl⟩ := h1 ad rfl
    exact .inr ⟨g, rfl⟩
theorem EsAt.drop {w : World} {b o : Nat} {P : List PEnt} (h : EsAt w (some ⟨b, o, none⟩) P) (k : Nat) : EsAt w (some ⟨b, o + k * 6, none⟩) (P.drop k) := by
  refine ⟨?_, fun p hp => h.rd p (List.mem_of_mem_drop hp)⟩
  rcases h.ls with rfl | ⟨b', o', hab, hlt, hc⟩
  · exact .inl (by simp)
  · cases hab
    refine .inr ⟨b, o + k * 6, rfl, hlt, fun i t hi j x hx => ?_⟩
    rw [List.getElem?_drop] at hi
    have := hc (k + i) t hi j x hx
    rw [show o + (k + i) * 6 + j = o + k * 6 + i * 6 + j by omega] at this
    exact this
theorem EsAt.nil {w : World} {a : Option Addr} : EsAt w a [] := ⟨.inl rfl, fun p hp => by cases hp⟩
theorem EsAt.take {w : World} {a : Option Addr} {P : List PEnt} (h : EsAt w a P) (k : Nat) : EsAt w a (P.take k) := by
  refine ⟨?_, fun p hp => h.rd p (List.mem_of_mem_take hp)⟩
  rcases h.ls with rfl | ⟨b', o', hab, hlt, hc⟩
  · exact .inl (by simp)
  · refine .inr ⟨b', o', hab, hlt, fun i t hi j x hx => hc i t ?_ j x hx⟩
    rw [List.getElem?_take] at hi
    split at hi
    · exact hi
    · cases hi
/-- At of a ring that is filled. -/
theorem at_filled (b room n N q : Nat) (t : Int) (a : Int) (w : World) (h : RingAt w b (fR room n)) (hq : (fR room n).l[q]? = some (enI N)) (ha : a = (((fR room n).floor + 1 + q : Nat) : Int)) (ht : ((N / 3 : Nat) : Int) = t) :
    Calls Try.prog 18 #[.pointer (some ⟨b, 0, none⟩), .int .i64 a] w fun e' w' => ∃ g yc, e' = .returned (.tuple #[.agg #[.int .i64 N, .int .i64 t, .int .i64 1, .int .i64 5, .int .i64 N, .slice (some ⟨g, 0, none⟩) 2 yc], .int .i64 0]) ∧ Rd w' ⟨enI N, .slice (some ⟨g, 0, none⟩) 2 yc⟩ ∧ g < w'.heap.size ∧ w'.cell? ⟨g, 0, none⟩ = some (.int .i64 N) ∧ Below w.heap.size w w' := by
  refine (at_ok (some ⟨b, 0, none⟩) (fR room n) a w (.inr ⟨b, rfl, h⟩) q (enI N) ha hq).mono ?_
  rintro e' w' ⟨x, rfl, ho, hb, -⟩
  obtain ⟨ya, yc, rfl, h0, h1⟩ := owns_form ho
  have hos := os_of_own ho
  cases ya with
  | none => exact absurd (h0 rfl).2 (by show (2 : Nat) ≠ 0; decide)
  | some ad =>
    obtain ⟨g, rfl⟩ := h1 ad rfl
    subst ht
    refine ⟨g, yc, rfl, ⟨⟨some ⟨g, 0, none⟩, yc, rfl, hos⟩, by show (2 : Nat) ≤ maxLen; decide⟩, (ho.lt g rfl).2, ?_, hb⟩
    obtain ⟨b', o', hab, _, hc, _⟩ := Os.at (i := 0) hos (s := ⟨N, ⟨#[47, 97]⟩, ⟨#[]⟩, 0, 0⟩) rfl
    cases hab
    exact hc
theorem same_filled (N : Nat) (t : Int) (xa ya : Option Addr) (xc yc : Nat) (w : World) (h : Rd w ⟨enI N, .slice xa 2 xc⟩) (h' : Rd w ⟨enI N, .slice ya 2 yc⟩) (ht : ((N / 3 : Nat) : Int) = t) :
    Calls Try.prog 13 #[.agg #[.int .i64 N, .int .i64 t, .int .i64 1, .int .i64 5, .int .i64 N, .slice xa 2 xc], .agg #[.int .i64 N, .int .i64 t, .int .i64 1, .int .i64 5, .int .i64 N, .slice ya 2 yc]] w fun e w' => e = .returned (.bool true) ∧ Below w.heap.size w w' := by
  subst ht
  refine (same_any ⟨enI N, .slice xa 2 xc⟩ ⟨enI N, .slice ya 2 yc⟩ w h h').mono ?_
  rintro e w' ⟨rfl, hb⟩
  exact ⟨by rw [decide_eq_true rfl], hb⟩
set_option maxHeartbeats 12800000 in
set_option maxRecDepth 100000 in
theorem tells_in (room n : Nat) (stamp most : Int) (w : World) (h1 : 1 ≤ room) (h2 : room ≤ 64) (hn : n ≤ 200) :
    Calls Try.prog 4 #[.int .i64 room, .int .i64 n, .int .i64 stamp, .int .i64 most] w fun e w' => e = .returned (.bool true) ∧ Below w.heap.size w w' := by
  have HB : Hid _ := begins_any w
  have HFI : Hid (∀ w', _) := fun w' => filled_any room n w' h1 h2 hn
  go_enter Try.func4, Try.ntmps4
  go_wp2_with fail
  refine Calls.mono HB.out ?_
  rintro e w1 ⟨rfl, hb1⟩
  have HB1 : Hid (Below w.heap.size w w1) := hb1
  clear hb1 HB
  go_wp2_with fail
  refine Calls.mono (HFI.out _) ?_
  rintro e w2 ⟨b, rfl, hlo, hr2, hb2⟩
  have HR2 : Hid (RingAt w2 b (fR room n)) := hr2
  have HB2 : Hid (Below w.heap.size w w2) := trans2 HB1.out hb2
  have HA : Hid _ := all_any (some ⟨b, 0, none⟩) (fR room n) w2 (.inr ⟨b, rfl, hr2⟩)
  clear hb2 hr2 hlo HFI HB1
  go_wp2_with fail
  refine Calls.mono HA.out ?_
  rintro e w3 ⟨v, P, rfl, hP, hE, hb3⟩
  have hsm : ∀ p ∈ P, p.e.ops.length ≤ maxLen := fun p hp => by
    have h3 : p.e ∈ (fR room n).l := by rw [← hP]; exact List.mem_map_of_mem (f := (·.e)) hp
    have h4 := (HR2.out.ok.small _ h3).len
    unfold maxLen
    omega
  obtain ⟨la, lc, rfl, hes⟩ := ents_form hE hsm
  have HCAP : Hid (P.length ≤ lc) := ents_cap hE
  have HLA : Hid ((la = none ∧ lc = 0) ∨ ∃ g, la = some ⟨g, 0, none⟩) := ents_addr hE
  have hPl : P.length = min n room := by rw [← fR_len room n, ← hP, List.length_map]
  have HR3 : Hid (RingAt w3 b (fR room n)) := HR2.out.below hb3
  have HB3 : Hid (Below w.heap.size w w3) := trans2 HB2.out hb3
  have HES : Hid (EsAt w3 la P) := hes
  have HP : Hid (P.map (·.e) = (fR room n).l) := hP
  have HPL : Hid (P.length = min n room) := hPl
  obtain ⟨m, hm⟩ : ∃ m, P.length = m := ⟨_, rfl⟩
  rw [hm] at hPl ⊢
  have HM : Hid (P.length = m) := hm
  have HF : Hid _ := floor_any (some ⟨b, 0, none⟩) (fR room n) w3 (.inr ⟨b, rfl, HR3.out⟩)
  obtain ⟨F, hF⟩ : ∃ F, (fR room n).floor = F := ⟨_, rfl⟩
  rw [hF] at HF
  have hFn : F + m = n := by rw [← hF, hPl]; show n - room + min n room = n; omega
  have HFF : Hid ((fR room n).floor = F) := hF
  have hcase : (room ≤ n ∧ m = room) ∨ (n < room ∧ m = n) := by omega
  have hfm : (n : Int) - (m : Int) = (F : Int) := by omega
  have HFN : Hid (F + m = n) := hFn
  have hm64 : m ≤ 64 := by omega
  clear hsm hE hes hP hb3 HA HR2 HB2 hm hF hPl hFn
  go_wp2_with fail
  refine Calls.mono HF.out ?_
  rintro e w4 ⟨rfl, hb4⟩
  have HR4 : Hid (RingAt w4 b (fR room n)) := HR3.out.below hb4
  have HB4 : Hid (Below w.heap.size w w4) := trans2 HB3.out hb4
  have HES4 : Hid (EsAt w4 la P) := HES.out.below hb4
  clear hb4 HF HR3 HB3 HES
  have hc0 : ((m : Int) != (room : Int)) = false ∧ decide ((room : Int) ≤ n) = true ∨ ((m : Int) != (n : Int)) = false ∧ decide ((room : Int) ≤ n) = false ∧ (n : Int) < room := by
    rcases hcase with ⟨h3, h4⟩ | ⟨h3, h4⟩
    · exact .inl ⟨by simp; omega, by simp; omega⟩
    · exact .inr ⟨by simp; omega, by simp; omega, by omega⟩
  clear hcase
  have HH : Hid (1 ≤ room ∧ room ≤ 64 ∧ n ≤ 200) := ⟨h1, h2, hn⟩
  rcases hc0 with ⟨k1, k2⟩ | ⟨k1, k2, k3⟩
  · go_wp2_with fail
    clear h1 h2 hn k1 k2 hfm
    go_loopw [15] (fun i wr => ∃ q : Nat, i = .int .i64 q ∧ q ≤ m ∧ Hid (Below w4.heap.size w4 wr)) (fun i _ => m - (intOf i).toNat)
    case atStart => exact ⟨0, rfl, Nat.zero_le _, Below.refl _ _⟩
    case round =>
      obtain ⟨q, rfl, hq, HBr⟩ := hrel
      by_cases hlt : q < m
      · have hlt' : (q : Int) < (m : Int) := by omega
        obtain ⟨x, hx⟩ : ∃ x, P[q]? = some x := ⟨P[q]'(by rw [HM.out]; exact hlt), List.getElem?_eq_getElem _⟩
        have hxl : (fR room n).l[q]? = some x.e := by rw [← HP.out, List.getElem?_map, hx]; rfl
        obtain ⟨N, hN⟩ : ∃ N, F + 1 + q = N := ⟨_, rfl⟩
        have hxe : x.e = enI N := by
          have h9 := hxl
          simp only [fR, List.getElem?_map] at h9
          have h10 : q < min n room := by rw [← HPL.out, HM.out]; exact hlt
          rw [List.getElem?_range' h10] at h9
          simp only [Option.map_some, Option.some.injEq] at h9
          rw [← h9]
          congr 1
          have h11 : n - room = F := HFF.out
          omega
        obtain ⟨t, ht⟩ : ∃ t : Int, ((N / 3 : Nat) : Int) = t := ⟨_, rfl⟩
        have HAT : Hid _ := at_filled b room n N q t ((F : Int) + 1 + q) wr (HR4.out.below HBr.out) (by rw [hxl, hxe]) (by rw [HFF.out]; omega) ht
        have HT : Hid (((N / 3 : Nat) : Int) = t) := ht
        have hrd := HES4.out.rd x (List.mem_of_getElem? hx)
        obtain ⟨lb, lo, rfl, hlb, x0, x1, x2, x3, x4, x5⟩ := (HES4.out.below HBr.out).at hx
        obtain ⟨xe, xx⟩ := x
        simp only at hxe
        subst hxe
        obtain ⟨xa, xc, hxx, -⟩ := hrd.x
        simp only at hxx
        subst hxx
        have HRD : Hid (Rd w4 ⟨enI N, .slice xa 2 xc⟩) := hrd
        have x0 : wr.cell? ⟨lb, lo + q * 6, none⟩ = some (.int .i64 N) := x0
        have x1 : wr.cell? ⟨lb, lo + q * 6 + 1, none⟩ = some (.int .i64 t) := by rw [← ht]; exact x1
        have x2 : wr.cell? ⟨lb, lo + q * 6 + 2, none⟩ = some (.int .i64 1) := x2
        have x3 : wr.cell? ⟨lb, lo + q * 6 + 3, none⟩ = some (.int .i64 5) := x3
        have x4 : wr.cell? ⟨lb, lo + q * 6 + 4, none⟩ = some (.int .i64 N) := x4
        have x5 : wr.cell? ⟨lb, lo + q * 6 + 5, none⟩ = some (.slice xa 2 xc) := x5
        have hFm : F + m ≤ 1000 := by have h9 := HFN.out; have h10 := HH.out.2.2; omega
        clear hx hxl hrd hN ht
        go_wp2_with fail
        refine Calls.mono HAT.out ?_
        rintro e' w5 ⟨g, yc, rfl, hrd5, hg5, gk, hb5⟩
        have HRD5 : Hid (Rd w5 ⟨enI N, .slice (some ⟨g, 0, none⟩) 2 yc⟩) := hrd5
        have HB5 : Hid (Below wr.heap.size wr w5) := hb5
        have hq5 : ∀ k o v, k < wr.heap.size → wr.cell? ⟨k, o, none⟩ = some v → w5.cell? ⟨k, o, none⟩ = some v := fun k o v hk hv => by rw [HB5.out.cell (p := ⟨k, o, none⟩) hk]; exact hv
        have x0 := hq5 _ _ _ hlb x0
        have x1 := hq5 _ _ _ hlb x1
        have x2 := hq5 _ _ _ hlb x2
        have x3 := hq5 _ _ _ hlb x3
        have x4 := hq5 _ _ _ hlb x4
        have x5 := hq5 _ _ _ hlb x5
        have hl5 : lb < w5.heap.size := Nat.lt_of_lt_of_le hlb HB5.out.size
        clear hb5 hrd5 HAT hq5
        go_wp2_with fail
        obtain ⟨V, hV⟩ : ∃ V, V = w5.alloc (.cells #[.int .i64 N, .int .i64 t, .int .i64 1, .int .i64 5, .int .i64 N, .slice (some ⟨g, 0, none⟩) 2 yc] 33) := ⟨_, rfl⟩
        rw [← hV]
        have hbV : Below w5.heap.size w5 V := by rw [hV]; exact (Below.refl _ _).alloc (Nat.le_refl _) _
        have hVb : V.heap[w5.heap.size]? = some (.cells #[.int .i64 N, .int .i64 t, .int .i64 1, .int .i64 5, .int .i64 N, .slice (some ⟨g, 0, none⟩) 2 yc] 33 (0, 0)) := by rw [hV]; exact heap_alloc_new _ _
        obtain ⟨e0, e1, e2, e3, e4, e5⟩ := cells_6 hVb
        have hqV : ∀ k o v, k < w5.heap.size → w5.cell? ⟨k, o, none⟩ = some v → V.cell? ⟨k, o, none⟩ = some v := fun k o v hk hv => by rw [hbV.cell (p := ⟨k, o, none⟩) hk]; exact hv
        have x0 := hqV _ _ _ hl5 x0
        have x1 := hqV _ _ _ hl5 x1
        have x2 := hqV _ _ _ hl5 x2
        have x3 := hqV _ _ _ hl5 x3
        have x4 := hqV _ _ _ hl5 x4
        have x5 := hqV _ _ _ hl5 x5
        have gk := hqV _ _ _ hg5 gk
        have HEV : Hid (w5.heap.size < V.heap.size) := lt_of_blk hVb
        have HBV : Hid (Below w4.heap.size w4 V) := trans2 (trans2 HBr.out HB5.out) hbV
        have HSM : Hid (∀ w', Below V.heap.size V w' → _) := fun w' hb => same_filled N t (some ⟨g, 0, none⟩) xa yc xc w' ((HRD5.out.below hbV).below hb) ((HRD.out.below HBV.out).below hb) HT.out
        have hlV : lb < V.heap.size := Nat.lt_of_lt_of_le hl5 hbV.size
        have hgV : g < V.heap.size := Nat.lt_of_lt_of_le hg5 hbV.size
        clear hV hqV hVb hbV
        go_region_held3 (fun w' => w'.cell? ⟨w5.heap.size, 0, none⟩ = some (.int .i64 N) ∧ w'.cell? ⟨w5.heap.size, 1, none⟩ = some (.int .i64 t) ∧ w'.cell? ⟨w5.heap.size, 2, none⟩ = some (.int .i64 1) ∧ w'.cell? ⟨w5.heap.size, 3, none⟩ = some (.int .i64 5) ∧ w'.cell? ⟨w5.heap.size, 4, none⟩ = some (.int .i64 N) ∧ w'.cell? ⟨w5.heap.size, 5, none⟩ = some (.slice (some ⟨g, 0, none⟩) 2 yc) ∧ w'.cell? ⟨lb, lo + q * 6, none⟩ = some (.int .i64 N) ∧ w'.cell? ⟨lb, lo + q * 6 + 1, none⟩ = some (.int .i64 t) ∧ w'.cell? ⟨lb, lo + q * 6 + 2, none⟩ = some (.int .i64 1) ∧ w'.cell? ⟨lb, lo + q * 6 + 3, none⟩ = some (.int .i64 5) ∧ w'.cell? ⟨lb, lo + q * 6 + 4, none⟩ = some (.int .i64 N) ∧ w'.cell? ⟨lb, lo + q * 6 + 5, none⟩ = some (.slice xa 2 xc) ∧ w'.cell? ⟨g, 0, none⟩ = some (.int .i64 N)) (first | (simp only [World.cell?_drew, World.cell?_drewN, e0, e1, e2, e3, e4, e5, x0, x1, x2, x3, x4, x5, gk, and_self]; done) | fail)
          (first
          | (go_at_call 13; refine (HSM.out _ (by first | exact below_drewN (Below.refl _ _) _ | exact below_drew (Below.refl _ _))).mono ?_
             rintro e' w6 ⟨rfl, hb6⟩
             have HB6 : Hid (Below w4.heap.size w4 w6) := trans2 (below_drew HBV.out) hb6
             have hq6 : ∀ k o v, k < V.heap.size → V.cell? ⟨k, o, none⟩ = some v → w6.cell? ⟨k, o, none⟩ = some v := fun k o v hk hv => by rw [hb6.cell (p := ⟨k, o, none⟩) hk]; exact hv
             have x0 := hq6 _ _ _ hlV x0
             have x1 := hq6 _ _ _ hlV x1
             have x2 := hq6 _ _ _ hlV x2
             have x3 := hq6 _ _ _ hlV x3
             have x4 := hq6 _ _ _ hlV x4
             have x5 := hq6 _ _ _ hlV x5
             have e0 := hq6 _ _ _ HEV.out e0
             have e1 := hq6 _ _ _ HEV.out e1
             have e2 := hq6 _ _ _ HEV.out e2
             have e3 := hq6 _ _ _ HEV.out e3
             have e4 := hq6 _ _ _ HEV.out e4
             have e5 := hq6 _ _ _ HEV.out e5
             have gk := hq6 _ _ _ hgV gk
             clear hb6 hq6))
        go_wp2_with fail
        exact ⟨⟨q + 1, by go_num, by omega, HB6⟩, by simp [intOf]; omega⟩
      · obtain rfl : q = m := by omega
        have HRr : Hid (RingAt wr b (fR room n)) := HR4.out.below HBr.out
        have HEr : Hid (EsAt wr la P) := HES4.out.below HBr.out
        have HWr : Hid (Below w.heap.size w wr) := trans2 HB4.out HBr.out
        have HAF : Hid _ := after_any (some ⟨b, 0, none⟩) (fR room n) stamp most wr (.inr ⟨b, rfl, HRr.out⟩)
        have hFm : F + q ≤ 1000 := by have h9 := HFN.out; have h10 := HH.out.2.2; omega
        have hqn : (F : Int) + q = n := by have h9 := HFN.out; omega
        obtain ⟨C, hC⟩ : ∃ C, (fR room n).afterC stamp most = C := ⟨_, rfl⟩
        have hCC : C = if most < 0 ∨ 64 < most then 1 else if stamp < F then 60 else if (n : Int) < stamp then 61 else 0 := by
          rw [← hC]; unfold RingT.afterC; rw [HFF.out, fR_last]
        have hLL : (fR room n).afterL stamp most = if C = 0 then ((fR room n).l.drop (stamp - F).toNat).take (min most ((n : Int) - stamp)).toNat else [] := by
          unfold RingT.afterL; rw [hC, HFF.out, fR_last]
        rw [hC, hLL] at HAF
        have HQN : Hid ((F : Int) + q = n) := hqn
        clear hC hLL hqn
        by_cases a0 : most < 0
        · rw [if_pos (.inl a0)] at hCC
          subst hCC
          go_wp2_with fail
          refine Calls.mono HAF.out ?_
          rintro e' w7 ⟨v, P', rfl, hP', hE', hb7⟩
          have HB7 : Hid (Below w.heap.size w w7) := trans2 HWr.out hb7
          rw [if_neg (by decide)] at hP'
          obtain rfl : P' = [] := List.map_eq_nil_iff.1 hP'
          obtain ⟨ma, mc, rfl, -⟩ := owns_form hE'.row
          clear hP' hE' hb7 HAF
          go_wp2_with fail
          go_ret
          exact ⟨rfl, HB7.out⟩
        by_cases a1 : 64 < most
        · rw [if_pos (.inr a1)] at hCC
          subst hCC
          go_wp2_with fail
          refine Calls.mono HAF.out ?_
          rintro e' w7 ⟨v, P', rfl, hP', hE', hb7⟩
          have HB7 : Hid (Below w.heap.size w w7) := trans2 HWr.out hb7
          rw [if_neg (by decide)] at hP'
          obtain rfl : P' = [] := List.map_eq_nil_iff.1 hP'
          obtain ⟨ma, mc, rfl, -⟩ := owns_form hE'.row
          clear hP' hE' hb7 HAF
          go_wp2_with fail
          go_ret
          exact ⟨rfl, HB7.out⟩
        rw [if_neg (fun h => h.elim a0 a1)] at hCC
        by_cases a2 : stamp < F
        · rw [if_pos a2] at hCC
          subst hCC
          go_wp2_with fail
          refine Calls.mono HAF.out ?_
          rintro e' w7 ⟨v, P', rfl, hP', hE', hb7⟩
          have HB7 : Hid (Below w.heap.size w w7) := trans2 HWr.out hb7
          rw [if_neg (by decide)] at hP'
          obtain rfl : P' = [] := List.map_eq_nil_iff.1 hP'
          obtain ⟨ma, mc, rfl, -⟩ := owns_form hE'.row
          clear hP' hE' hb7 HAF
          go_wp2_with fail
          go_ret
          exact ⟨rfl, HB7.out⟩
        rw [if_neg a2] at hCC
        by_cases a3 : (n : Int) < stamp
        · rw [if_pos a3] at hCC
          subst hCC
          go_wp2_with fail
          refine Calls.mono HAF.out ?_
          rintro e' w7 ⟨v, P', rfl, hP', hE', hb7⟩
          have HB7 : Hid (Below w.heap.size w w7) := trans2 HWr.out hb7
          rw [if_neg (by decide)] at hP'
          obtain rfl : P' = [] := List.map_eq_nil_iff.1 hP'
          obtain ⟨ma, mc, rfl, -⟩ := owns_form hE'.row
          clear hP' hE' hb7 HAF
          go_wp2_with fail
          go_ret
          exact ⟨rfl, HB7.out⟩
        rw [if_neg a3] at hCC
        subst hCC
        rw [if_pos rfl] at HAF
        obtain ⟨k0, hst⟩ : ∃ k0 : Nat, stamp = (F : Int) + k0 := ⟨(stamp - F).toNat, by omega⟩
        have hkq : k0 ≤ q := by have h9 := HQN.out; omega
        rw [show (stamp - (F : Int)).toNat = k0 by omega] at HAF
        have hk0 : (F : Int) + k0 - F = (k0 : Int) := by omega
        obtain ⟨mo, hmo⟩ : ∃ mo : Nat, most = (mo : Int) := ⟨most.toNat, by omega⟩
        subst hmo
        rw [show (min (mo : Int) ((n : Int) - stamp)).toNat = min mo (q - k0) by have h9 := HQN.out; rw [Int.min_def]; split <;> omega] at HAF
        subst hst
        go_wp2_with fail
        refine Calls.mono HAF.out ?_
        rintro e' w7 ⟨v, P', rfl, hP', hE', hb7⟩
        have HB7 : Hid (Below w.heap.size w w7) := trans2 HWr.out hb7
        have hsm : ∀ p ∈ P', p.e.ops.length ≤ maxLen := fun p hp => by
          have h3 : p.e ∈ (fR room n).l := by
            have h3' : p.e ∈ P'.map (·.e) := List.mem_map_of_mem (f := (·.e)) hp
            rw [hP'] at h3'
            exact List.mem_of_mem_drop (List.mem_of_mem_take h3')
          have h4 := (HRr.out.ok.small _ h3).len
          unfold maxLen
          omega
        obtain ⟨ma, mc, rfl, hes'⟩ := ents_form hE' hsm
        have HE7 : Hid (EsAt w7 la P) := HEr.out.below hb7
        have HE8 : Hid (EsAt w7 ma P') := hes'
        have hl' : P'.length = min mo (q - k0) := by
          have h3 := congrArg List.length hP'
          rw [List.length_map, List.length_take, List.length_drop, fR_len, ← HPL.out, HM.out] at h3
          omega
        rw [hl']
        have HL' : Hid (P'.length = min mo (q - k0)) := hl'
        have HP' : Hid (P'.map (·.e) = ((fR room n).l.drop k0).take (min mo (q - k0))) := hP'
        obtain ⟨ml, hml⟩ : ∃ ml, min mo (q - k0) = ml := ⟨_, rfl⟩
        rw [hml] at HL' HP' ⊢
        have hqc : q ≤ lc := by have h9 := HCAP.out; rw [HM.out] at h9; exact h9
        have HML : Hid (min mo (q - k0) = ml) := hml
        clear hP' hE' hb7 hsm hes' hl' HAF hml
        have hPd : (fR room n).l.drop k0 = (P.drop k0).map (·.e) := by rw [← HP.out, List.map_drop]
        have HPD : Hid (P'.map (·.e) = ((P.drop k0).take ml).map (·.e)) := by
          show _ = _
          rw [HP'.out, hPd, List.map_take]
        clear hPd
        by_cases hlk : lc = k0
        · obtain rfl : q = k0 := by omega
          subst hlk
          go_wp2_with fail
          have h9 := HML.out
          have h10 : ml = 0 := by omega
          refine Calls.mono (sameAll_any ma la mc 0 ml 0 P' [] w7 HE8.out EsAt.nil HL'.out rfl (by rw [h10]; exact Nat.zero_le _)) ?_
          rintro e' w8 ⟨rfl, hb8⟩
          have HB8 : Hid (Below w.heap.size w w8) := trans2 HB7.out hb8
          obtain rfl : P' = [] := List.eq_nil_of_length_eq_zero (by rw [HL'.out, h10])
          rw [decide_eq_true rfl]
          clear hb8 h9 h10
          go_wp2_with fail
          go_ret
          exact ⟨rfl, HB8.out⟩
        · rcases HLA.out with ⟨hl0, hl1⟩ | ⟨g, hl0⟩
          · omega
          subst hl0
          have HD7 : Hid (EsAt w7 (some ⟨g, 0 + k0 * 6, none⟩) (P.drop k0)) := HE7.out.drop k0
          have hdl : (P.drop k0).length = q - k0 := by rw [List.length_drop, HM.out]
          have HDL : Hid ((P.drop k0).length = q - k0) := hdl
          rw [Nat.zero_add] at HD7
          have hadd : (⟨g, 0, none⟩ : Addr).add (k0 * 6) = ⟨g, k0 * 6, none⟩ := by rw [addr_add, Nat.zero_add]
          clear hdl
          by_cases hmo : mo < q - k0
          · have hmo' : (mo : Int) < (q : Int) - k0 := by omega
            have h9 := HML.out
            obtain rfl : ml = mo := by omega
            clear h9
            go_wp2_with fail
            refine Calls.mono (sameAll_any ma (some ⟨g, k0 * 6, none⟩) mc (lc - k0) ml ml P' ((P.drop k0).take ml) w7 HE8.out (HD7.out.take ml) HL'.out (by rw [List.length_take, HDL.out]; omega) (by unfold maxLen; omega)) ?_
            rintro e' w8 ⟨rfl, hb8⟩
            have HB8 : Hid (Below w.heap.size w w8) := trans2 HB7.out hb8
            rw [decide_eq_true HPD.out]
            clear hb8
            go_wp2_with fail
            go_ret
            exact ⟨rfl, HB8.out⟩
          · have hmo' : ¬ (mo : Int) < (q : Int) - k0 := by omega
            have h9 := HML.out
            obtain rfl : ml = q - k0 := by omega
            clear h9
            go_wp2_with fail
            refine Calls.mono (sameAll_any ma (some ⟨g, k0 * 6, none⟩) mc (lc - k0) (q - k0) (q - k0) P' ((P.drop k0).take (q - k0)) w7 HE8.out (HD7.out.take (q - k0)) HL'.out (by rw [List.length_take, HDL.out]; omega) (by unfold maxLen; omega)) ?_
            rintro e' w8 ⟨rfl, hb8⟩
            have HB8 : Hid (Below w.heap.size w w8) := trans2 HB7.out hb8
            rw [decide_eq_true HPD.out]
            clear hb8
            go_wp2_with fail
            go_ret
            exact ⟨rfl, HB8.out⟩
  · go_wp2_with fail
    clear h1 h2 hn k1 k2 k3 hfm
    go_loopw [15] (fun i wr => ∃ q : Nat, i = .int .i64 q ∧ q ≤ m ∧ Hid (Below w4.heap.size w4 wr)) (fun i _ => m - (intOf i).toNat)
    case atStart => exact ⟨0, rfl, Nat.zero_le _, Below.refl _ _⟩
    case round =>
      obtain ⟨q, rfl, hq, HBr⟩ := hrel
      by_cases hlt : q < m
      · have hlt' : (q : Int) < (m : Int) := by omega
        obtain ⟨x, hx⟩ : ∃ x, P[q]? = some x := ⟨P[q]'(by rw [HM.out]; exact hlt), List.getElem?_eq_getElem _⟩
        have hxl : (fR room n).l[q]? = some x.e := by rw [← HP.out, List.getElem?_map, hx]; rfl
        obtain ⟨N, hN⟩ : ∃ N, F + 1 + q = N := ⟨_, rfl⟩
        have hxe : x.e = enI N := by
          have h9 := hxl
          simp only [fR, List.getElem?_map] at h9
          have h10 : q < min n room := by rw [← HPL.out, HM.out]; exact hlt
          rw [List.getElem?_range' h10] at h9
          simp only [Option.map_some, Option.some.injEq] at h9
          rw [← h9]
          congr 1
          have h11 : n - room = F := HFF.out
          omega
        obtain ⟨t, ht⟩ : ∃ t : Int, ((N / 3 : Nat) : Int) = t := ⟨_, rfl⟩
        have HAT : Hid _ := at_filled b room n N q t ((F : Int) + 1 + q) wr (HR4.out.below HBr.out) (by rw [hxl, hxe]) (by rw [HFF.out]; omega) ht
        have HT : Hid (((N / 3 : Nat) : Int) = t) := ht
        have hrd := HES4.out.rd x (List.mem_of_getElem? hx)
        obtain ⟨lb, lo, rfl, hlb, x0, x1, x2, x3, x4, x5⟩ := (HES4.out.below HBr.out).at hx
        obtain ⟨xe, xx⟩ := x
        simp only at hxe
        subst hxe
        obtain ⟨xa, xc, hxx, -⟩ := hrd.x
        simp only at hxx
        subst hxx
        have HRD : Hid (Rd w4 ⟨enI N, .slice xa 2 xc⟩) := hrd
        have x0 : wr.cell? ⟨lb, lo + q * 6, none⟩ = some (.int .i64 N) := x0
        have x1 : wr.cell? ⟨lb, lo + q * 6 + 1, none⟩ = some (.int .i64 t) := by rw [← ht]; exact x1
        have x2 : wr.cell? ⟨lb, lo + q * 6 + 2, none⟩ = some (.int .i64 1) := x2
        have x3 : wr.cell? ⟨lb, lo + q * 6 + 3, none⟩ = some (.int .i64 5) := x3
        have x4 : wr.cell? ⟨lb, lo + q * 6 + 4, none⟩ = some (.int .i64 N) := x4
        have x5 : wr.cell? ⟨lb, lo + q * 6 + 5, none⟩ = some (.slice xa 2 xc) := x5
        have hFm : F + m ≤ 1000 := by have h9 := HFN.out; have h10 := HH.out.2.2; omega
        clear hx hxl hrd hN ht
        go_wp2_with fail
        refine Calls.mono HAT.out ?_
        rintro e' w5 ⟨g, yc, rfl, hrd5, hg5, gk, hb5⟩
        have HRD5 : Hid (Rd w5 ⟨enI N, .slice (some ⟨g, 0, none⟩) 2 yc⟩) := hrd5
        have HB5 : Hid (Below wr.heap.size wr w5) := hb5
        have hq5 : ∀ k o v, k < wr.heap.size → wr.cell? ⟨k, o, none⟩ = some v → w5.cell? ⟨k, o, none⟩ = some v := fun k o v hk hv => by rw [HB5.out.cell (p := ⟨k, o, none⟩) hk]; exact hv
        have x0 := hq5 _ _ _ hlb x0
        have x1 := hq5 _ _ _ hlb x1
        have x2 := hq5 _ _ _ hlb x2
        have x3 := hq5 _ _ _ hlb x3
        have x4 := hq5 _ _ _ hlb x4
        have x5 := hq5 _ _ _ hlb x5
        have hl5 : lb < w5.heap.size := Nat.lt_of_lt_of_le hlb HB5.out.size
        clear hb5 hrd5 HAT hq5
        go_wp2_with fail
        obtain ⟨V, hV⟩ : ∃ V, V = w5.alloc (.cells #[.int .i64 N, .int .i64 t, .int .i64 1, .int .i64 5, .int .i64 N, .slice (some ⟨g, 0, none⟩) 2 yc] 33) := ⟨_, rfl⟩
        rw [← hV]
        have hbV : Below w5.heap.size w5 V := by rw [hV]; exact (Below.refl _ _).alloc (Nat.le_refl _) _
        have hVb : V.heap[w5.heap.size]? = some (.cells #[.int .i64 N, .int .i64 t, .int .i64 1, .int .i64 5, .int .i64 N, .slice (some ⟨g, 0, none⟩) 2 yc] 33 (0, 0)) := by rw [hV]; exact heap_alloc_new _ _
        obtain ⟨e0, e1, e2, e3, e4, e5⟩ := cells_6 hVb
        have hqV : ∀ k o v, k < w5.heap.size → w5.cell? ⟨k, o, none⟩ = some v → V.cell? ⟨k, o, none⟩ = some v := fun k o v hk hv => by rw [hbV.cell (p := ⟨k, o, none⟩) hk]; exact hv
        have x0 := hqV _ _ _ hl5 x0
        have x1 := hqV _ _ _ hl5 x1
        have x2 := hqV _ _ _ hl5 x2
        have x3 := hqV _ _ _ hl5 x3
        have x4 := hqV _ _ _ hl5 x4
        have x5 := hqV _ _ _ hl5 x5
        have gk := hqV _ _ _ hg5 gk
        have HEV : Hid (w5.heap.size < V.heap.size) := lt_of_blk hVb
        have HBV : Hid (Below w4.heap.size w4 V) := trans2 (trans2 HBr.out HB5.out) hbV
        have HSM : Hid (∀ w', Below V.heap.size V w' → _) := fun w' hb => same_filled N t (some ⟨g, 0, none⟩) xa yc xc w' ((HRD5.out.below hbV).below hb) ((HRD.out.below HBV.out).below hb) HT.out
        have hlV : lb < V.heap.size := Nat.lt_of_lt_of_le hl5 hbV.size
        have hgV : g < V.heap.size := Nat.lt_of_lt_of_le hg5 hbV.size
        clear hV hqV hVb hbV
        go_region_held3 (fun w' => w'.cell? ⟨w5.heap.size, 0, none⟩ = some (.int .i64 N) ∧ w'.cell? ⟨w5.heap.size, 1, none⟩ = some (.int .i64 t) ∧ w'.cell? ⟨w5.heap.size, 2, none⟩ = some (.int .i64 1) ∧ w'.cell? ⟨w5.heap.size, 3, none⟩ = some (.int .i64 5) ∧ w'.cell? ⟨w5.heap.size, 4, none⟩ = some (.int .i64 N) ∧ w'.cell? ⟨w5.heap.size, 5, none⟩ = some (.slice (some ⟨g, 0, none⟩) 2 yc) ∧ w'.cell? ⟨lb, lo + q * 6, none⟩ = some (.int .i64 N) ∧ w'.cell? ⟨lb, lo + q * 6 + 1, none⟩ = some (.int .i64 t) ∧ w'.cell? ⟨lb, lo + q * 6 + 2, none⟩ = some (.int .i64 1) ∧ w'.cell? ⟨lb, lo + q * 6 + 3, none⟩ = some (.int .i64 5) ∧ w'.cell? ⟨lb, lo + q * 6 + 4, none⟩ = some (.int .i64 N) ∧ w'.cell? ⟨lb, lo + q * 6 + 5, none⟩ = some (.slice xa 2 xc) ∧ w'.cell? ⟨g, 0, none⟩ = some (.int .i64 N)) (first | (simp only [World.cell?_drew, World.cell?_drewN, e0, e1, e2, e3, e4, e5, x0, x1, x2, x3, x4, x5, gk, and_self]; done) | fail)
          (first
          | (go_at_call 13; refine (HSM.out _ (by first | exact below_drewN (Below.refl _ _) _ | exact below_drew (Below.refl _ _))).mono ?_
             rintro e' w6 ⟨rfl, hb6⟩
             have HB6 : Hid (Below w4.heap.size w4 w6) := trans2 (below_drew HBV.out) hb6
             have hq6 : ∀ k o v, k < V.heap.size → V.cell? ⟨k, o, none⟩ = some v → w6.cell? ⟨k, o, none⟩ = some v := fun k o v hk hv => by rw [hb6.cell (p := ⟨k, o, none⟩) hk]; exact hv
             have x0 := hq6 _ _ _ hlV x0
             have x1 := hq6 _ _ _ hlV x1
             have x2 := hq6 _ _ _ hlV x2
             have x3 := hq6 _ _ _ hlV x3
             have x4 := hq6 _ _ _ hlV x4
             have x5 := hq6 _ _ _ hlV x5
             have e0 := hq6 _ _ _ HEV.out e0
             have e1 := hq6 _ _ _ HEV.out e1
             have e2 := hq6 _ _ _ HEV.out e2
             have e3 := hq6 _ _ _ HEV.out e3
             have e4 := hq6 _ _ _ HEV.out e4
             have e5 := hq6 _ _ _ HEV.out e5
             have gk := hq6 _ _ _ hgV gk
             clear hb6 hq6))
        go_wp2_with fail
        exact ⟨⟨q + 1, by go_num, by omega, HB6⟩, by simp [intOf]; omega⟩
      · obtain rfl : q = m := by omega
        have HRr : Hid (RingAt wr b (fR room n)) := HR4.out.below HBr.out
        have HEr : Hid (EsAt wr la P) := HES4.out.below HBr.out
        have HWr : Hid (Below w.heap.size w wr) := trans2 HB4.out HBr.out
        have HAF : Hid _ := after_any (some ⟨b, 0, none⟩) (fR room n) stamp most wr (.inr ⟨b, rfl, HRr.out⟩)
        have hFm : F + q ≤ 1000 := by have h9 := HFN.out; have h10 := HH.out.2.2; omega
        have hqn : (F : Int) + q = n := by have h9 := HFN.out; omega
        obtain ⟨C, hC⟩ : ∃ C, (fR room n).afterC stamp most = C := ⟨_, rfl⟩
        have hCC : C = if most < 0 ∨ 64 < most then 1 else if stamp < F then 60 else if (n : Int) < stamp then 61 else 0 := by
          rw [← hC]; unfold RingT.afterC; rw [HFF.out, fR_last]
        have hLL : (fR room n).afterL stamp most = if C = 0 then ((fR room n).l.drop (stamp - F).toNat).take (min most ((n : Int) - stamp)).toNat else [] := by
          unfold RingT.afterL; rw [hC, HFF.out, fR_last]
        rw [hC, hLL] at HAF
        have HQN : Hid ((F : Int) + q = n) := hqn
        clear hC hLL hqn
        by_cases a0 : most < 0
        · rw [if_pos (.inl a0)] at hCC
          subst hCC
          go_wp2_with fail
          refine Calls.mono HAF.out ?_
          rintro e' w7 ⟨v, P', rfl, hP', hE', hb7⟩
          have HB7 : Hid (Below w.heap.size w w7) := trans2 HWr.out hb7
          rw [if_neg (by decide)] at hP'
          obtain rfl : P' = [] := List.map_eq_nil_iff.1 hP'
          obtain ⟨ma, mc, rfl, -⟩ := owns_form hE'.row
          clear hP' hE' hb7 HAF
          go_wp2_with fail
          go_ret
          exact ⟨rfl, HB7.out⟩
        by_cases a1 : 64 < most
        · rw [if_pos (.inr a1)] at hCC
          subst hCC
          go_wp2_with fail
          refine Calls.mono HAF.out ?_
          rintro e' w7 ⟨v, P', rfl, hP', hE', hb7⟩
          have HB7 : Hid (Below w.heap.size w w7) := trans2 HWr.out hb7
          rw [if_neg (by decide)] at hP'
          obtain rfl : P' = [] := List.map_eq_nil_iff.1 hP'
          obtain ⟨ma, mc, rfl, -⟩ := owns_form hE'.row
          clear hP' hE' hb7 HAF
          go_wp2_with fail
          go_ret
          exact ⟨rfl, HB7.out⟩
        rw [if_neg (fun h => h.elim a0 a1)] at hCC
        by_cases a2 : stamp < F
        · rw [if_pos a2] at hCC
          subst hCC
          go_wp2_with fail
          refine Calls.mono HAF.out ?_
          rintro e' w7 ⟨v, P', rfl, hP', hE', hb7⟩
          have HB7 : Hid (Below w.heap.size w w7) := trans2 HWr.out hb7
          rw [if_neg (by decide)] at hP'
          obtain rfl : P' = [] := List.map_eq_nil_iff.1 hP'
          obtain ⟨ma, mc, rfl, -⟩ := owns_form hE'.row
          clear hP' hE' hb7 HAF
          go_wp2_with fail
          go_ret
          exact ⟨rfl, HB7.out⟩
        rw [if_neg a2] at hCC
        by_cases a3 : (n : Int) < stamp
        · rw [if_pos a3] at hCC
          subst hCC
          go_wp2_with fail
          refine Calls.mono HAF.out ?_
          rintro e' w7 ⟨v, P', rfl, hP', hE', hb7⟩
          have HB7 : Hid (Below w.heap.size w w7) := trans2 HWr.out hb7
          rw [if_neg (by decide)] at hP'
          obtain rfl : P' = [] := List.map_eq_nil_iff.1 hP'
          obtain ⟨ma, mc, rfl, -⟩ := owns_form hE'.row
          clear hP' hE' hb7 HAF
          go_wp2_with fail
          go_ret
          exact ⟨rfl, HB7.out⟩
        rw [if_neg a3] at hCC
        subst hCC
        rw [if_pos rfl] at HAF
        obtain ⟨k0, hst⟩ : ∃ k0 : Nat, stamp = (F : Int) + k0 := ⟨(stamp - F).toNat, by omega⟩
        have hkq : k0 ≤ q := by have h9 := HQN.out; omega
        rw [show (stamp - (F : Int)).toNat = k0 by omega] at HAF
        have hk0 : (F : Int) + k0 - F = (k0 : Int) := by omega
        obtain ⟨mo, hmo⟩ : ∃ mo : Nat, most = (mo : Int) := ⟨most.toNat, by omega⟩
        subst hmo
        rw [show (min (mo : Int) ((n : Int) - stamp)).toNat = min mo (q - k0) by have h9 := HQN.out; rw [Int.min_def]; split <;> omega] at HAF
        subst hst
        go_wp2_with fail
        refine Calls.mono HAF.out ?_
        rintro e' w7 ⟨v, P', rfl, hP', hE', hb7⟩
        have HB7 : Hid (Below w.heap.size w w7) := trans2 HWr.out hb7
        have hsm : ∀ p ∈ P', p.e.ops.length ≤ maxLen := fun p hp => by
          have h3 : p.e ∈ (fR room n).l := by
            have h3' : p.e ∈ P'.map (·.e) := List.mem_map_of_mem (f := (·.e)) hp
            rw [hP'] at h3'
            exact List.mem_of_mem_drop (List.mem_of_mem_take h3')
          have h4 := (HRr.out.ok.small _ h3).len
          unfold maxLen
          omega
        obtain ⟨ma, mc, rfl, hes'⟩ := ents_form hE' hsm
        have HE7 : Hid (EsAt w7 la P) := HEr.out.below hb7
        have HE8 : Hid (EsAt w7 ma P') := hes'
        have hl' : P'.length = min mo (q - k0) := by
          have h3 := congrArg List.length hP'
          rw [List.length_map, List.length_take, List.length_drop, fR_len, ← HPL.out, HM.out] at h3
          omega
        rw [hl']
        have HL' : Hid (P'.length = min mo (q - k0)) := hl'
        have HP' : Hid (P'.map (·.e) = ((fR room n).l.drop k0).take (min mo (q - k0))) := hP'
        obtain ⟨ml, hml⟩ : ∃ ml, min mo (q - k0) = ml := ⟨_, rfl⟩
        rw [hml] at HL' HP' ⊢
        have hqc : q ≤ lc := by have h9 := HCAP.out; rw [HM.out] at h9; exact h9
        have HML : Hid (min mo (q - k0) = ml) := hml
        clear hP' hE' hb7 hsm hes' hl' HAF hml
        have hPd : (fR room n).l.drop k0 = (P.drop k0).map (·.e) := by rw [← HP.out, List.map_drop]
        have HPD : Hid (P'.map (·.e) = ((P.drop k0).take ml).map (·.e)) := by
          show _ = _
          rw [HP'.out, hPd, List.map_take]
        clear hPd
        by_cases hlk : lc = k0
        · obtain rfl : q = k0 := by omega
          subst hlk
          go_wp2_with fail
          have h9 := HML.out
          have h10 : ml = 0 := by omega
          refine Calls.mono (sameAll_any ma la mc 0 ml 0 P' [] w7 HE8.out EsAt.nil HL'.out rfl (by rw [h10]; exact Nat.zero_le _)) ?_
          rintro e' w8 ⟨rfl, hb8⟩
          have HB8 : Hid (Below w.heap.size w w8) := trans2 HB7.out hb8
          obtain rfl : P' = [] := List.eq_nil_of_length_eq_zero (by rw [HL'.out, h10])
          rw [decide_eq_true rfl]
          clear hb8 h9 h10
          go_wp2_with fail
          go_ret
          exact ⟨rfl, HB8.out⟩
        · rcases HLA.out with ⟨hl0, hl1⟩ | ⟨g, hl0⟩
          · omega
          subst hl0
          have HD7 : Hid (EsAt w7 (some ⟨g, 0 + k0 * 6, none⟩) (P.drop k0)) := HE7.out.drop k0
          have hdl : (P.drop k0).length = q - k0 := by rw [List.length_drop, HM.out]
          have HDL : Hid ((P.drop k0).length = q - k0) := hdl
          rw [Nat.zero_add] at HD7
          have hadd : (⟨g, 0, none⟩ : Addr).add (k0 * 6) = ⟨g, k0 * 6, none⟩ := by rw [addr_add, Nat.zero_add]
          clear hdl
          by_cases hmo : mo < q - k0
          · have hmo' : (mo : Int) < (q : Int) - k0 := by omega
            have h9 := HML.out
            obtain rfl : ml = mo := by omega
            clear h9
            go_wp2_with fail
            refine Calls.mono (sameAll_any ma (some ⟨g, k0 * 6, none⟩) mc (lc - k0) ml ml P' ((P.drop k0).take ml) w7 HE8.out (HD7.out.take ml) HL'.out (by rw [List.length_take, HDL.out]; omega) (by unfold maxLen; omega)) ?_
            rintro e' w8 ⟨rfl, hb8⟩
            have HB8 : Hid (Below w.heap.size w w8) := trans2 HB7.out hb8
            rw [decide_eq_true HPD.out]
            clear hb8
            go_wp2_with fail
            go_ret
            exact ⟨rfl, HB8.out⟩
          · have hmo' : ¬ (mo : Int) < (q : Int) - k0 := by omega
            have h9 := HML.out
            obtain rfl : ml = q - k0 := by omega
            clear h9
            go_wp2_with fail
            refine Calls.mono (sameAll_any ma (some ⟨g, k0 * 6, none⟩) mc (lc - k0) (q - k0) (q - k0) P' ((P.drop k0).take (q - k0)) w7 HE8.out (HD7.out.take (q - k0)) HL'.out (by rw [List.length_take, HDL.out]; omega) (by unfold maxLen; omega)) ?_
            rintro e' w8 ⟨rfl, hb8⟩
            have HB8 : Hid (Below w.heap.size w w8) := trans2 HB7.out hb8
            rw [decide_eq_true HPD.out]
            clear hb8
            go_wp2_with fail
            go_ret
            exact ⟨rfl, HB8.out⟩
theorem tells_any (room n stamp most : Int) (w : World) :
    Calls Try.prog 4 #[.int .i64 room, .int .i64 n, .int .i64 stamp, .int .i64 most] w fun e w' => e = .returned (.bool true) ∧ Below w.heap.size w w' := by
  by_cases h : room < 1 ∨ (1 ≤ room ∧ 64 < room) ∨ (1 ≤ room ∧ room ≤ 64 ∧ n < 0) ∨ (1 ≤ room ∧ room ≤ 64 ∧ 0 ≤ n ∧ 200 < n)
  · exact tells_out room n stamp most w h
  · obtain ⟨r, rfl⟩ : ∃ r : Nat, room = r := ⟨room.toNat, by omega⟩
    obtain ⟨k, rfl⟩ : ∃ k : Nat, n = k := ⟨n.toNat, by omega⟩
    exact tells_in r k stamp most w (by omega) (by omega) (by omega)
end Go.Proofs.Ytonppfnjeomcoaa
