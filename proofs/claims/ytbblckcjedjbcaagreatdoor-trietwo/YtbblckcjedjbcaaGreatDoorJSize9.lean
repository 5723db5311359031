/-
  heraldref9: Size.
-/
import Derived.Test.YtbblckcjedjbcaaGreatDoorJOfs
import Derived.Test.YtbblckcjedjbcaaGreatDoorJRefParent
import Derived.Test.YtbblckcjedjbcaaGreatDoorWay
namespace Go.Proofs.YtbblckcjedjbcaaGreatDoor.J
open Go.RowKit Go.Maps
set_option linter.unusedVariables false
set_option linter.unusedSimpArgs false

theorem eq_str {x p : ByteArray} (h : (x.toList == p.toList) = true) : x = p := by
  have h1 : x.toList = p.toList := by simpa using h
  rw [ByteArray.toList_eq, ByteArray.toList_eq] at h1
  cases x; cases p
  congr 1
  exact Array.toList_inj.1 h1
theorem ne_str {x p : ByteArray} (h : (x.toList == p.toList) = false) : ¬ x = p := by
  rintro rfl
  simp at h
set_option maxHeartbeats 6400000 in
set_option maxRecDepth 100000 in
theorem in9 (a : Option Addr) (c n B : Nat) (l : List ByteArray) (p : ByteArray) (w : World) (hL : w.ownsRow B 9 1 (.slice a n c) n (l.map Value.string)) (hl : n ≤ 10000000) :
    Calls Tryz.prog 79 #[.slice a n c, .string p] w fun e w' => ∃ b : Bool, e = .returned (.bool b) ∧ (b = true ↔ p ∈ l) ∧ w' = w := by
  have hn : l.length = n := by have h1 := hL.1; rw [List.length_map, Nat.mul_one] at h1; exact h1
  have HN : Hid (l.length = n) := hn
  have HL : Hid (w.ownsRow B 9 1 (.slice a n c) n (l.map Value.string)) := hL
  clear hL hn
  go_enter Tryz.func79, Tryz.ntmps79
  go_wp2_with fail
  go_loopw [5] (fun iv wr => ∃ q : Nat, iv = .int .i64 q ∧ q ≤ n ∧ wr = w ∧ Hid (∀ (j : Nat) (x : ByteArray), j < q → l[j]? = some x → ¬ x = p)) (fun iv _ => n - (intOf iv).toNat)
  case atStart => exact ⟨0, rfl, Nat.zero_le _, rfl, fun j x h => (by omega)⟩
  case round =>
    obtain ⟨q, rfl, hq, rfl, HNO⟩ := hrel
    by_cases hlt : q < n
    · have hlt' : (q : Int) < (n : Int) := by omega
      obtain ⟨x, hx⟩ : ∃ x, l[q]? = some x := ⟨l[q]'(by rw [HN.out]; exact hlt), List.getElem?_eq_getElem _⟩
      obtain ⟨g, rfl⟩ := row_addr HL.out (by omega)
      have n0 : wr.cell? ⟨g, q, none⟩ = some (.string x) := cell_n HL.out (by rw [List.getElem?_map, hx]; rfl)
      have HX : Hid (l[q]? = some x) := hx
      clear hx
      cases hs : (x.toList == p.toList) with
      | true =>
        go_wp2_with fail
        go_ret
        exact ⟨true, rfl, ⟨fun _ => by rw [← eq_str hs]; exact List.mem_of_getElem? HX.out, fun _ => rfl⟩, rfl⟩
      | false =>
        go_wp2_with fail
        go_roundw
        case rel =>
          refine ⟨q + 1, by go_num, by omega, trivial, fun j y hj hy => ?_⟩
          by_cases e : j = q
          · subst e
            rw [HX.out] at hy
            cases hy
            exact ne_str hs
          · exact HNO.out j y (by omega) hy
        case measure => simp [intOf]; omega
    · have hge : ¬ (q : Int) < (n : Int) := by omega
      have HNI : Hid (¬ p ∈ l) := fun h => by
        obtain ⟨j, hj⟩ := List.getElem?_of_mem h
        have hjl : j < l.length := (List.getElem?_eq_some_iff.1 hj).1
        exact HNO.out j p (by have := HN.out; omega) hj rfl
      go_wp2_with fail
      go_ret
      exact .inl ⟨rfl, HNI.out, rfl⟩
/-- A way that may be. -/
def OkW (v : Way) : Prop := v.length ≤ 6 ∧ v.all isNm = true
theorem okW_pre {u v : Way} (h : OkW v) (hp : u <+: v) : OkW u := by
  obtain ⟨t, rfl⟩ := hp
  refine ⟨?_, ?_⟩
  · have := h.1
    rw [List.length_append] at this
    omega
  · have := h.2
    rw [List.all_append, Bool.and_eq_true] at this
    exact this.1
theorem place_inj {u v : Way} (hu : OkW u) (hv : OkW v) (h : placeB u = placeB v) : u = v := by
  have h1 := parse_place hu.1 hu.2
  rw [h, parse_place hv.1 hv.2] at h1
  cases h1
  rfl
theorem place_root {u : Way} (hu : OkW u) (h : placeB u = ⟨#[47]⟩) : u = [] := place_inj hu ⟨by simp, rfl⟩ (by rw [h]; rfl)
/-- Places that were seen: of the watches L, and of the way p, those that are longer than u. -/
structure WI (L : List On) (p u : Way) (W : List Way) : Prop where
  nd : W.Nodup
  ok : ∀ v ∈ W, OkW v
  mem : ∀ v, v ∈ W ↔ (v = [] ∨ ∃ o ∈ L, v <+: (parse o.p).2) ∨ (v <+: p ∧ u.length < v.length)
theorem WI.key {p u : Way} (hu : u <+: p) (hne : u ≠ []) (v : Way) : (v <+: p ∧ u.dropLast.length < v.length) ↔ (v <+: p ∧ u.length < v.length) ∨ v = u := by
  have hl : u.length = u.dropLast.length + 1 := by
    have : 0 < u.length := List.length_pos_iff.2 hne
    rw [List.length_dropLast]
    omega
  constructor
  · rintro ⟨h1, h2⟩
    by_cases e : u.length < v.length
    · exact .inl ⟨h1, e⟩
    · have hle : v.length = u.length := by omega
      exact .inr ((List.prefix_of_prefix_length_le h1 hu (by omega)).eq_of_length hle)
  · rintro (⟨h1, h2⟩ | rfl)
    · exact ⟨h1, by omega⟩
    · exact ⟨hu, by omega⟩
theorem WI.stepIn {L : List On} {p u : Way} {W : List Way} (h : WI L p u W) (hu : u <+: p) (hne : u ≠ []) (hin : u ∈ W) : WI L p u.dropLast W := by
    refine ⟨h.nd, h.ok, fun v => ?_⟩
    rw [h.mem v, WI.key hu hne v]
    constructor
    · rintro (e | e)
      · exact .inl e
      · exact .inr (.inl e)
    · rintro (e | e | rfl)
      · exact .inl e
      · exact .inr e
      · exact (h.mem v).1 hin
theorem WI.stepOut {L : List On} {p u : Way} {W : List Way} (h : WI L p u W) (hu : u <+: p) (hp : OkW p) (hne : u ≠ []) (hout : ¬ u ∈ W) : WI L p u.dropLast (W ++ [u]) := by
    refine ⟨?_, ?_, fun v => ?_⟩
    · rw [List.nodup_append]
      exact ⟨h.nd, by simp, fun a ha b hb => by
        have : b = u := by simpa using hb
        subst this
        rintro rfl
        exact hout ha⟩
    · intro v hv
      rcases List.mem_append.1 hv with hv | hv
      · exact h.ok v hv
      · have : v = u := by simpa using hv
        subst this
        exact okW_pre hp hu
    · rw [WI.key hu hne v, List.mem_append, h.mem v]
      constructor
      · rintro ((e | e) | e)
        · exact .inl e
        · exact .inr (.inl e)
        · exact .inr (.inr (by simpa using e))
      · rintro (e | e | rfl)
        · exact .inl (.inl e)
        · exact .inl (.inr e)
        · exact .inr (by simp)
theorem WI.start {L : List On} {p0 : Way} {W : List Way} (h : WI L p0 [] W) (p : Way) (hroot : p0 = []) : WI L p p W := by
  refine ⟨h.nd, h.ok, fun v => ?_⟩
  rw [h.mem v, hroot]
  constructor
  · rintro (e | ⟨h1, h2⟩)
    · exact .inl e
    · rw [List.prefix_nil.1 h1] at h2
      simp at h2
  · rintro (e | ⟨h1, h2⟩)
    · exact .inl e
    · have := h1.length_le
      omega
theorem WI.fin {L : List On} {o : On} {W : List Way} (h : WI L (parse o.p).2 [] W) : WI (L ++ [o]) [] [] W := by
  refine ⟨h.nd, h.ok, fun v => ?_⟩
  rw [h.mem v]
  constructor
  · rintro ((e | ⟨x, hx, e⟩) | ⟨h1, h2⟩)
    · exact .inl (.inl e)
    · exact .inl (.inr ⟨x, List.mem_append_left _ hx, e⟩)
    · exact .inl (.inr ⟨o, by simp, h1⟩)
  · rintro ((e | ⟨x, hx, e⟩) | ⟨h1, h2⟩)
    · exact .inl (.inl e)
    · rcases List.mem_append.1 hx with hx | hx
      · exact .inl (.inr ⟨x, hx, e⟩)
      · have : x = o := by simpa using hx
        subst this
        by_cases e0 : v = []
        · exact .inl (.inl e0)
        · exact .inr ⟨e, List.length_pos_iff.2 e0⟩
    · rw [List.prefix_nil.1 h1] at h2
      simp at h2
theorem WI.size {L : List On} {W : List Way} (h : WI L [] [] W) : W.length = sizO L := by
  obtain ⟨h1, h2⟩ := close_fold L [[]] (by simp) (by simp)
  refine same_len h.nd h1 (fun q => ?_)
  rw [h.mem q]
  show _ ↔ q ∈ L.foldl (fun D o => addW D [] (parse o.p).2) [[]]
  rw [h2]
  constructor
  · rintro ((rfl | ⟨x, hx, hp⟩) | ⟨h3, h4⟩)
    · exact .inl (by simp)
    · exact .inr ⟨x, hx, hp⟩
    · rw [List.prefix_nil.1 h3] at h4
      simp at h4
  · rintro (e | ⟨x, hx, hp⟩)
    · exact .inl (.inl (by simpa using e))
    · exact .inl (.inr ⟨x, hx, hp⟩)
theorem WI.zero : WI [] [] [] [[]] := by
  refine ⟨by simp, fun v hv => ?_, fun v => ?_⟩
  · have : v = [] := by simpa using hv
    subst this
    exact ⟨by simp, rfl⟩
  · constructor
    · intro h
      exact .inl (.inl (by simpa using h))
    · rintro ((rfl | ⟨x, hx, _⟩) | ⟨h1, h2⟩)
      · simp
      · cases hx
      · rw [List.prefix_nil.1 h1] at h2
        simp at h2
abbrev plS (W : List Way) : List ByteArray := W.map placeB
theorem pl_mem {W : List Way} {u : Way} (hW : ∀ v ∈ W, OkW v) (hu : OkW u) : placeB u ∈ plS W ↔ u ∈ W := by
  constructor
  · intro h
    obtain ⟨v, hv, e⟩ := List.mem_map.1 h
    rw [← place_inj (hW v hv) hu e]
    exact hv
  · exact fun h => List.mem_map.2 ⟨u, h, rfl⟩
theorem row_one9 {w : World} {B g : Nat} {x : ByteArray} (h : w.heap[g]? = some (.cells #[.string x] 9 (0, 0))) (hB : B ≤ g) : w.ownsRow B 9 1 (.slice (some ⟨g, 0, none⟩) 1 1) 1 ([x].map Value.string) :=
  ⟨rfl, .inr ⟨g, 1, _, rfl, hB, h, Nat.le_refl _, by decide, rfl, rfl⟩⟩
theorem cell_one_newS (W : World) (x : Value) (t : TypeId) : ∀ j u, [x][j]? = some u → (W.alloc (.cells #[x] t)).cell? ((⟨W.heap.size, 0, none⟩ : Addr).add j) = some u := by
  intro j u hj
  match j with
  | 0 =>
    simp at hj
    subst hj
    rw [addr_add, Nat.zero_add, cell_blkX (heap_alloc_new W _)]
    rfl
  | j + 1 => simp at hj
theorem Tryz.infoStr : (Tryz.prog.info? 9).map (fun i => (i.zero, i.size, i.bytes)) = some (some (.string ⟨#[]⟩), 1, 16) := by kernel_rfl
set_option maxHeartbeats 16000000 in
set_option maxRecDepth 100000 in
theorem size9 (a : Option Addr) (c n : Nat) (L : List On) (w : World) (hP : ∀ x ∈ L, (parse x.p).1 = 0) (hL : Ns w (.slice a n c) L) (hn : L.length = n) (hl : n ≤ 100000) :
    Calls Tryz.prog 54 #[xVal (.slice a n c)] w fun e w' => e = .returned (.int .i64 (sizO L : Nat)) ∧ Below w.heap.size w w' := by
  obtain ⟨w1, hw1⟩ : ∃ w1, w.alloc (.cells #[.bool false, .slice a n c] 69) = w1 := ⟨_, rfl⟩
  have HB1 : Hid (Below w.heap.size w w1) := by rw [← hw1]; exact (Below.refl _ _).alloc (Nat.le_refl _) _
  have HA1 : Hid (w1.heap[w.heap.size]? = some (.cells #[.bool false, .slice a n c] 69 (0, 0))) := by show _ = _; rw [← hw1]; exact heap_alloc_new _ _
  have HSZ : Hid (w1.heap.size = w.heap.size + 1) := by show _ = _; rw [← hw1]; simp
  obtain ⟨w2, hw2⟩ : ∃ w2, w1.alloc (.cells #[.string ⟨#[47]⟩] 9) = w2 := ⟨_, rfl⟩
  have HB2 : Hid (Below w.heap.size w w2) := by rw [← hw2]; exact HB1.out.alloc HB1.out.size _
  have HA : Hid (w2.heap[w.heap.size]? = some (.cells #[.bool false, .slice a n c] 69 (0, 0))) := by show _ = _; rw [← hw2]; exact new_old HA1.out _
  have HR0 : Hid (w2.ownsRow w1.heap.size 9 1 (.slice (some ⟨w.heap.size + 1, 0, none⟩) 1 1) 1 ((plS [[]]).map Value.string)) := by
    show World.ownsRow _ _ _ _ _ _ _
    rw [← HSZ.out]
    exact row_one9 (by rw [← hw2]; exact heap_alloc_new _ _) (Nat.le_refl _)
  have HL : Hid (Ns w2 (.slice a n c) L) := hL.below HB2.out
  have HLw : Hid (Ns w (.slice a n c) L) := hL
  have HN : Hid (L.length = n) := hn
  have HPP : Hid (∀ x ∈ L, (parse x.p).1 = 0) := hP
  have HW1 : Hid (w.alloc (.cells #[.bool false, .slice a n c] 69) = w1) := hw1
  have HW2 : Hid (w1.alloc (.cells #[.string ⟨#[47]⟩] 9) = w2) := hw2
  obtain ⟨c0, c1⟩ := cells_2 HA1.out
  clear hL hn hw2 hP
  go_enter Tryz.func54, Tryz.ntmps54
  rw [← hw1] at c0 c1
  clear hw1
  go_wp2_with fail
  rw [HW1.out, HW2.out]
  clear c0 c1
  obtain ⟨B, hB⟩ : ∃ B, w1.heap.size = B := ⟨_, rfl⟩
  have HBB : Hid (w.heap.size ≤ B ∧ B ≤ w2.heap.size) := ⟨by rw [← hB]; exact HB1.out.size, by rw [← hB, ← HW2.out]; simp⟩
  have HBE : Hid (B = w.heap.size + 1) := by show _ = _; rw [← hB]; exact HSZ.out
  rw [hB] at HR0
  clear hB
  go_loopw [3, 4] (fun lv iv wr => ∃ (q : Nat) (W : List Way), iv = .int .i64 q ∧ q ≤ n ∧ Hid (WI (L.take q) [] [] W) ∧ Hid (W.length ≤ 1 + 7 * q) ∧ Hid (Below w.heap.size w wr) ∧ Hid (wr.heap[w.heap.size]? = some (.cells #[.bool false, .slice a n c] 69 (0, 0))) ∧ Hid (wr.ownsRow B 9 1 lv W.length ((plS W).map Value.string))) (fun _ iv _ => n - (intOf iv).toNat)
  case atStart => exact ⟨0, [[]], rfl, Nat.zero_le _, WI.zero, by show _ ≤ _; decide, HB2, HA, HR0⟩
  case round =>
    obtain ⟨q, W, rfl, hq, HWI, HWL, HBr, HAr, HO⟩ := hrel
    obtain ⟨c0, c1⟩ := cells_2 HAr.out
    by_cases hlt : q < n
    · have hlt' : (q : Int) < (n : Int) := by omega
      obtain ⟨x, hx⟩ : ∃ x, L[q]? = some x := ⟨L[q]'(by rw [HN.out]; exact hlt), List.getElem?_eq_getElem _⟩
      obtain ⟨g, rfl, n0, n1, n2, n3, n4⟩ := (HLw.out.below HBr.out).at HN.out hx
      obtain ⟨p, hp⟩ : ∃ p, (parse x.p).2 = p := ⟨_, rfl⟩
      have hpx : parse x.p = (0, p) := by
        have h1 := HPP.out x (List.mem_of_getElem? hx)
        rw [← hp, ← h1]
      have HOP : Hid (OkW p) := ⟨(parse_len hpx).1, (parse_len hpx).2⟩
      have HTK : Hid (L.take (q + 1) = L.take q ++ [x]) := by show _ = _; rw [List.take_add_one, hx]; rfl
      have HPE : Hid ((parse x.p).2 = p) := hp
      have hxp := (parse_back hpx).symm
      rw [hxp] at n2
      clear hx hp hpx hxp
      have hq7 : q ≤ 100000 := by omega
      go_wp2_with fail
      go_loopg [3, 5] (p.length) (fun k lv pv wr => ∃ (u : Way) (W : List Way), k = u.length ∧ pv = .string (placeB u) ∧ Hid (u <+: p) ∧ Hid (WI (L.take q) p u W) ∧ Hid (W.length + u.length ≤ 7 * q + 7) ∧ Hid (Below w.heap.size w wr) ∧ Hid (wr.heap[w.heap.size]? = some (.cells #[.bool false, .slice (some ⟨g, 0, none⟩) n c] 69 (0, 0))) ∧ Hid (wr.ownsRow B 9 1 lv W.length ((plS W).map Value.string)))
      case atStart => exact ⟨p, W, rfl, rfl, List.prefix_refl _, HWI.out.start p rfl, by show _ ≤ _; have := HWL.out; have := HOP.out.1; omega, HBr, HAr, HO⟩
      case round =>
        obtain ⟨u, W, rfl, rfl, HU, HWI, HWL, HBr, HAr, HO⟩ := hrel
        have HOU : Hid (OkW u) := okW_pre HOP.out HU.out
        by_cases hne : u = []
        · subst hne
          have hs : ((placeB []).toList == [47]) = true := by rw [ByteArray.toList_eq]; rfl
          have HWF : Hid (WI (L.take (q + 1)) [] [] W) := by
            show WI _ _ _ _
            rw [HTK.out]
            have h1 := HWI.out
            rw [← HPE.out] at h1
            exact h1.fin
          go_wp2_with fail
          go_roundw
          case rel => exact ⟨q + 1, W, by go_num, by omega, HWF, by show _ ≤ _; have := HWL.out; simp at this; omega, HBr, HAr, HO⟩
          case measure => simp [intOf]; omega
        · have hs : ((placeB u).toList == [47]) = false := by
            cases h : ((placeB u).toList == [47]) with
            | false => rfl
            | true => exact (hne (place_root HOU.out (eq_str (p := ⟨#[47]⟩) (by rw [ByteArray.toList_eq ⟨#[47]⟩]; exact h)))).elim
          have HNE : Hid (u ≠ []) := hne
          obtain ⟨a3, c3, hv3⟩ := owns_shape HO.out
          subst hv3
          have HIN : Hid (∀ W', W' = wr → _) := fun W' e => by
            have h1 := in9 a3 c3 W.length B (plS W) (placeB u) wr HO.out (by have := HWL.out; omega)
            rw [← e] at h1
            exact h1
          have hk1 : u.length = (u.length - 1) + 1 := by have := List.length_pos_iff.2 hne; omega
          have HPA : Hid (∀ W', _) := fun W' => refParent_some (parse_place HOU.out.1 HOU.out.2) (u.length - 1) hk1 W'
          have hdl : u.take (u.length - 1) = u.dropLast := (List.dropLast_eq_take).symm
          rw [hdl] at HPA
          have HDU : Hid (u.dropLast <+: p) := (List.dropLast_prefix u).trans HU.out
          have HDL : Hid (u.dropLast.length + 1 = u.length) := by show _ = _; rw [List.length_dropLast]; omega
          clear hne hk1 hdl
          go_upto_region 10 with (first
            | (go_at_call 79; refine Calls.mono (HIN.out _ rfl) ?_; rintro e w5 ⟨b, rfl, hb, rfl⟩
               have HBI : Hid (b = true ↔ u ∈ W) := by show _ ↔ _; rw [hb]; exact pl_mem HWI.out.ok HOU.out
               clear hb)
            | fail)
          cases b with
          | true =>
            have HN2 : Hid (WI (L.take q) p u.dropLast W) := HWI.out.stepIn HU.out HNE.out (HBI.out.1 rfl)
            go_wp2_with (first
              | (go_at_call 80; refine Calls.mono (HPA.out _) ?_; rintro e w6 ⟨rfl, hb6⟩
                 have HB6 : Hid (Below w5.heap.size w5 w6) := hb6
                 clear hb6)
              | fail)
            go_roundg (u.dropLast.length)
            case rel => exact ⟨u.dropLast, W, rfl, rfl, HDU, HN2, by show _ ≤ _; have := HWL.out; have := HDL.out; omega, xtrans2 HBr.out HB6.out, kept_block HB6.out HAr.out, owns_below HO.out HB6.out⟩
            case measure => have := HDL.out; omega
          | false =>
            have HN2 : Hid (WI (L.take q) p u.dropLast (W ++ [u])) := HWI.out.stepOut HU.out HOP.out HNE.out (fun h => by have := HBI.out.2 h; cases this)
            obtain ⟨i0, hi, hz0, hz1, hz2⟩ := info_parts Tryz.infoStr
            have HWB : Hid (B ≤ w5.heap.size) := by show _ ≤ _; have h1 := lt_of_blk HAr.out; have h2 := HBE.out; omega
            have hW7 : W.length ≤ 1000000 := by have := HWL.out; omega
            go_wp2_with (first
              | (at_builtin; refine wpList_append_own_at _ rfl _ _ 87 rfl B 9 i0 (.string ⟨#[]⟩) 1 16 Tryz.underlying87 hi hz0 hz1 hz2 rfl (by decide) (.slice a3 W.length c3) W.length ((plS W).map Value.string) rfl (World.ownsRow.alloc HO.out _) ⟨w5.heap.size, 0, none⟩ 1 1 [.string (placeB u)] rfl rfl (cell_one_newS _ _ _) (fun x hx => by simp at hx; subst hx; rfl) (by unfold maxLen; omega) (by omega) (by have := HWB.out; simp; omega) ?_
                 intro v7 w7 ho7 hg7 _ hat
                 have HO7 : Hid (w7.ownsRow B 9 1 v7 (W.length + 1) ((plS W).map Value.string ++ [.string (placeB u)])) := ho7
                 have HB7 : Hid (Below w.heap.size w w7) := (HBr.out.alloc HBr.out.size _).trans ((Chg.grown hg7).below (by have := HBr.out.size; simp; omega) (fun k hk e => by have h1 := (row_block HO.out k e).1; have h2 := HBB.out.1; omega))
                 have HA7 : Hid (w7.heap[w.heap.size]? = some (.cells #[.bool false, .slice (some ⟨g, 0, none⟩) n c] 69 (0, 0))) := by
                   show _ = _
                   have h0 := lt_of_blk HAr.out
                   rw [(Chg.grown hg7).block w.heap.size (by simp; omega) (fun e => by have h1 := (row_block HO.out _ e).1; have h2 := HBE.out; omega)]
                   exact new_old HAr.out _
                 clear ho7 hg7 hat)
              | (go_at_call 80; refine Calls.mono (HPA.out _) ?_; rintro e w6 ⟨rfl, hb6⟩
                 have HB6 : Hid (Below w7.heap.size w7 w6) := hb6
                 clear hb6)
              | fail)
            go_roundg (u.dropLast.length)
            case rel =>
              refine ⟨u.dropLast, W ++ [u], rfl, rfl, HDU, HN2, by show _ ≤ _; have := HWL.out; have := HDL.out; simp; omega, xtrans2 HB7.out HB6.out, kept_block HB6.out HA7.out, ?_⟩
              show World.ownsRow _ _ _ _ _ _ _
              have h1 := owns_below HO7.out HB6.out
              rw [List.length_append]
              simpa [plS] using h1
            case measure => have := HDL.out; omega
    · have hge : ¬ (q : Int) < (n : Int) := by omega
      have HE : Hid (L.take q = L) := List.take_of_length_le (by rw [HN.out]; omega)
      have hwi := HWI.out
      rw [HE.out] at hwi
      have HSI : Hid (W.length = sizO L) := hwi.size
      obtain ⟨a6, c6, hv6⟩ := owns_shape HO.out
      subst hv6
      clear hwi
      go_wp2_with fail
      go_ret
      exact ⟨by rw [← HSI.out]; rfl, HBr.out⟩
end Go.Proofs.YtbblckcjedjbcaaGreatDoor.J
