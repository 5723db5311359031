/-
  heraldlaw16: LineTurned.
-/
import Derived.Test.YtfcobhgjkibdgaaLNear
namespace Go.Proofs.Ytfcobhgjkibdgaa
open Go.RowKit
set_option linter.unusedVariables false
set_option linter.unusedSimpArgs false

/-- A line, and messages in boxes beside it. -/
structure TuI (At : World → (Nat → Prop) → LnT → Value → Prop) (w0 w : World) (K : Nat → Prop) (L : LnT) (p : Value) (B : List (Nat × MsT)) : Prop where
  at' : At w K L p
  ok : L.Ok
  low : ∀ j, K j → w0.heap.size ≤ j
  below : Below w0.heap.size w0 w
  boxes : ∀ x ∈ B, w.heap[x.1]? = some (.cells #[.int .i64 x.2.f, .int .i64 x.2.t, .string x.2.b] 23 (0, 0)) ∧ ¬ K x.1
theorem TuI.call {At : World → (Nat → Prop) → LnT → Value → Prop} {w0 w w' : World} {K K' : Nat → Prop} {L L' : LnT} {p : Value} {B : List (Nat × MsT)} (h : TuI At w0 w K L p B) (he : LnE At w K L' p w' K') (ho : L'.Ok) : TuI At w0 w' K' L' p B := by
  refine ⟨he.at', ho, fun j hj => (he.new j hj).elim (h.low j) (fun e => Nat.le_trans h.below.size e), ⟨he.chg.os.trans h.below.os, he.chg.tape.trans h.below.tape, he.chg.output.trans h.below.output, Nat.le_trans h.below.size he.chg.size, fun k hk => (he.chg.block k (Nat.lt_of_lt_of_le hk h.below.size) (fun e => by have := h.low k e; omega)).trans (h.below.block k hk)⟩, fun x hx => ?_⟩
  obtain ⟨h1, h2⟩ := h.boxes x hx
  have h3 := lt_of_blk h1
  exact ⟨by rw [he.chg.block x.1 h3 h2]; exact h1, fun hk => (he.new x.1 hk).elim h2 (fun e => by omega)⟩
theorem TuI.at {At : World → (Nat → Prop) → LnT → Value → Prop} (sv : Lines At) {w0 w w' : World} {K : Nat → Prop} {L : LnT} {p : Value} {B : List (Nat × MsT)} (h : TuI At w0 w K L p B) (hb : Below w.heap.size w w') : TuI At w0 w' K L p B :=
  ⟨sv.keep h.at' (Kp.of_below hb _), h.ok, h.low, trans2 h.below hb, fun x hx => ⟨kept_block hb (h.boxes x hx).1, (h.boxes x hx).2⟩⟩
theorem TuI.al {At : World → (Nat → Prop) → LnT → Value → Prop} (sv : Lines At) {w0 w : World} {K : Nat → Prop} {L : LnT} {p : Value} {B : List (Nat × MsT)} (h : TuI At w0 w K L p B) (m : MsT) : TuI At w0 (w.alloc (.cells #[.int .i64 m.f, .int .i64 m.t, .string m.b] 23)) K L p ((w.heap.size, m) :: B) := by
  have h1 := h.at sv ((Below.refl _ _).alloc (Nat.le_refl _) (.cells #[.int .i64 m.f, .int .i64 m.t, .string m.b] 23))
  refine ⟨h1.at', h1.ok, h1.low, h1.below, fun x hx => ?_⟩
  rcases List.mem_cons.1 hx with rfl | hx
  · exact ⟨heap_alloc_new _ _, fun hk => by have h9 : w.heap.size < w.heap.size := sv.lt h.at' _ hk; omega⟩
  · exact h1.boxes x hx
section
variable (m : MsT) (m' : MsT)
def la : LnT := ⟨[⟨1, m, false⟩, ⟨2, m, false⟩], 2, false⟩
def lb : LnT := ⟨[⟨1, m, false⟩, ⟨2, m, false⟩, ⟨3, m, false⟩], 3, false⟩
def lc : LnT := ⟨[⟨1, m', true⟩, ⟨2, m, false⟩, ⟨3, m, false⟩], 3, false⟩
def ld : LnT := ⟨[⟨1, m', true⟩, ⟨2, m, false⟩, ⟨3, m, false⟩, ⟨4, m', true⟩], 4, false⟩
def le' : LnT := ⟨[⟨1, m', true⟩, ⟨2, m, false⟩, ⟨3, m', true⟩, ⟨4, m', true⟩], 4, false⟩
theorem la_send : ln0.send [m, m] = (la m, [1, 2]) := rfl
theorem la_dbl : (la m).dbl 1 = (lb m, 3, 0) := rfl
theorem lb_look : lookM (lb m).fl 1 = (m, 0) := rfl
theorem lb_bad {a t : Int} (h : a < 0 ∨ t < 1 ∨ 255 < t ∨ m.b.size = 0) : (lb m).spl 1 a t = (lb m, 1) := by
  show (if a < 0 ∨ t < 1 ∨ 255 < t ∨ m.b.size = 0 then (lb m, 1) else _) = _
  rw [if_pos h]
theorem lb_spl {a t : Int} (h : ¬ (a < 0 ∨ t < 1 ∨ 255 < t ∨ m.b.size = 0)) : (lb m).spl 1 a t = (lc m ⟨m.f, m.t, tnB m.b a t⟩, 0) := by
  show (if a < 0 ∨ t < 1 ∨ 255 < t ∨ m.b.size = 0 then (lb m, 1) else if false = true then _ else _) = _
  rw [if_neg h]
  rfl
theorem lc_dbl : (lc m m').dbl 1 = (ld m m', 4, 0) := rfl
theorem ld_look1 : lookM (ld m m').fl 1 = (m', 0) := rfl
theorem ld_look2 : lookM (ld m m').fl 2 = (m, 0) := rfl
theorem ld_look3 : lookM (ld m m').fl 3 = (m, 0) := rfl
theorem ld_look4 : lookM (ld m m').fl 4 = (m', 0) := rfl
theorem ld_spl1 {a t : Int} (h : ¬ (t < 1 ∨ 255 < t ∨ m'.b.size = 0)) : (ld m m').spl 1 a t = (ld m m', if a < 0 then 1 else 161) := by
  show (if a < 0 ∨ t < 1 ∨ 255 < t ∨ m'.b.size = 0 then (ld m m', 1) else if true = true then (ld m m', 161) else _) = _
  by_cases ha : a < 0
  · rw [if_pos (.inl ha), if_pos ha]
  · rw [if_neg (by omega), if_neg ha]
    rfl
theorem ld_spl4 {a t : Int} (h : ¬ (t < 1 ∨ 255 < t ∨ m'.b.size = 0)) : (ld m m').spl 4 a t = (ld m m', if a < 0 then 1 else 161) := by
  show (if a < 0 ∨ t < 1 ∨ 255 < t ∨ m'.b.size = 0 then (ld m m', 1) else if true = true then (ld m m', 161) else _) = _
  by_cases ha : a < 0
  · rw [if_pos (.inl ha), if_pos ha]
  · rw [if_neg (by omega), if_neg ha]
    rfl
theorem ld_spl3 {a t : Int} (h : ¬ (a < 0 ∨ t < 1 ∨ 255 < t ∨ m.b.size = 0)) : (ld m m').spl 3 a t = (⟨[⟨1, m', true⟩, ⟨2, m, false⟩, ⟨3, ⟨m.f, m.t, tnB m.b a t⟩, true⟩, ⟨4, m', true⟩], 4, false⟩, 0) := by
  show (if a < 0 ∨ t < 1 ∨ 255 < t ∨ m.b.size = 0 then (ld m m', 1) else if false = true then _ else _) = _
  rw [if_neg h]
  rfl
theorem le_look : lookM (le' m m').fl 3 = (m', 0) := rfl
end
theorem nb_str {xs : List Int} {j : Nat} {x : Int} (h : xs[j]? = some x) (hx : 0 ≤ x ∧ x < 256) : nb (strOfNums xs) j = x := by
  obtain ⟨hj, rfl⟩ := List.getElem?_eq_some_iff.1 h
  have hs : j < (strOfNums xs).size := by rw [strOfNums_size]; exact hj
  unfold nb
  rw [dif_pos hs]
  have e : (strOfNums xs)[j] = UInt8.ofNat (xs[j]).toNat := by
    show ((xs.map fun n => UInt8.ofNat n.toNat).toArray)[j]'(by simpa using hj) = _
    simp
  rw [e]
  have h2 : (xs[j]).toNat < 256 := by omega
  rw [UInt8.toNat_ofNat_of_lt' (by simpa using h2)]
  omega
theorem nb_lt (s : ByteArray) (j : Nat) : 0 ≤ nb s j ∧ nb s j < 256 := by
  unfold nb
  split
  · rename_i h
    have := (s[j]'h).toNat_lt
    omega
  · omega
theorem xor_lt {a t : Int} (ha : 0 ≤ a ∧ a < 256) (ht : 1 ≤ t ∧ t ≤ 255) : 0 ≤ bits .xor .u8 a t ∧ bits .xor .u8 a t < 256 ∧ bits .xor .u8 a t ≠ a := by
  rw [u8_xor a t ha.1 ha.2 (by omega) (by omega)]
  have h1 : a.toNat ^^^ t.toNat < 256 := Nat.xor_lt_two_pow (n := 8) (by omega) (by omega)
  refine ⟨by omega, by omega, fun e => ?_⟩
  have e2 : a.toNat ^^^ t.toNat = a.toNat := by omega
  have e3 : t.toNat = 0 := by
    have h4 : a.toNat ^^^ (a.toNat ^^^ t.toNat) = a.toNat ^^^ a.toNat := by rw [e2]
    rw [← Nat.xor_assoc, Nat.xor_self, Nat.zero_xor] at h4
    exact h4
  omega
theorem nb_tn {s : ByteArray} {a t : Int} (ht : 1 ≤ t ∧ t ≤ 255) {j : Nat} (hj : j < s.size) : nb (tnB s a t) j = if j = a.toNat % s.size then bits .xor .u8 (nb s j) t else nb s j := by
  unfold tnB
  refine nb_str (tnL_at hj) ?_
  split
  · exact ⟨(xor_lt (nb_lt s j) ht).1, (xor_lt (nb_lt s j) ht).2.1⟩
  · exact nb_lt s j
theorem near_tn (m : MsT) {a t : Int} (ht : 1 ≤ t ∧ t ≤ 255) : Near ⟨m.f, m.t, tnB m.b a t⟩ m := by
  refine ⟨rfl, rfl, tnB_size _ _ _, a.toNat % m.b.size, fun j hj hne => ?_⟩
  have hj : j < m.b.size := by have h9 : j < (tnB m.b a t).size := hj; rw [tnB_size] at h9; exact h9
  show nb (tnB m.b a t) j = nb m.b j
  rw [nb_tn ht hj, if_neg hne]
theorem tn_ne {s : ByteArray} {a t : Int} (ht : 1 ≤ t ∧ t ≤ 255) (hs : s.size ≠ 0) : tnB s a t ≠ s := fun e => by
  have hr : a.toNat % s.size < s.size := Nat.mod_lt _ (by omega)
  have h := nb_tn (s := s) (a := a) ht hr
  rw [if_pos rfl, e] at h
  exact (xor_lt (nb_lt s _) ht).2.2 h.symm
set_option maxHeartbeats 6400000 in
set_option maxRecDepth 100000 in
theorem LineTurned_walk {At : World → (Nat → Prop) → LnT → Value → Prop} (sv : Lines At) (m0 : MsT) (a t again : Int) (w : World) :
    Calls Try.prog 3 #[m0.val, .int .i64 a, .int .i64 t, .int .i64 again] w fun e w' => e = .returned (.bool true) ∧ Below w.heap.size w w' := by
  obtain ⟨hA, hB, hbel⟩ := pair_blocks (w := w) (t := 23) (cs := #[.int .i64 m0.f, .int .i64 m0.t, .string m0.b]) (t' := 23) (cs' := #[.int .i64 m0.f, .int .i64 m0.t, .string m0.b])
  obtain ⟨W, hW⟩ : ∃ z, ((w.alloc (.cells #[.int .i64 m0.f, .int .i64 m0.t, .string m0.b] 23)).alloc (.cells #[.int .i64 m0.f, .int .i64 m0.t, .string m0.b] 23)) = z := ⟨_, rfl⟩
  rw [hW] at hA hB hbel
  obtain ⟨g, hg⟩ : ∃ z, w.heap.size = z := ⟨_, rfl⟩
  rw [hg] at hA hB
  have HSH : Hid (Calls Try.prog 9 #[.slice (some ⟨g + 1, 0, none⟩) 1 1] W _) := short_any [m0] (.slice (some ⟨g + 1, 0, none⟩) 1 1) W (fun _ => True) ⟨_, 1, rfl, Nat.le_refl _, (fun h => by cases h), .inr ⟨g + 1, 0, rfl, trivial, lt_of_blk hB, fun i x hi => by
      cases i with
      | zero =>
        obtain rfl : m0 = x := by simpa using hi
        obtain ⟨c0, c1, c2⟩ := cells_3 hB
        exact ⟨c0, c1, c2⟩
      | succ i => simp at hi⟩⟩
  have HA : Hid (W.heap[g]? = some (.cells #[.int .i64 m0.f, .int .i64 m0.t, .string m0.b] 23 (0, 0))) := hA
  have HW : Hid (_ = W) := hW
  have HG : Hid (w.heap.size = g) := hg
  have HBW : Hid (Below w.heap.size w W) := hbel
  have HKN : Hid (∀ w', _) := fun w' => known_any sv w'
  clear hA hB hbel hW hg
  go_enter Try.func3, Try.ntmps3
  go_wp2_with fail
  try rw [show (w.alloc (.cells #[.int .i64 m0.f, .int .i64 m0.t, .string m0.b] 23)).heap.size = w.heap.size + 1 by simp]
  rw [HW.out, HG.out]
  refine Calls.mono HSH.out ?_
  rintro e w1 ⟨u, rfl, hu, hb1⟩
  obtain ⟨m, hm⟩ : ∃ z, cutM m0 = z := ⟨_, rfl⟩
  have hsh : shL [m0] = [m] := by rw [← hm]; rfl
  have hm6 : m.b.size ≤ 600 := by rw [← hm]; exact cutB_size _
  rw [hsh] at hu
  obtain ⟨ug, uc, hus⟩ := row_some (n := 0) hu
  subst hus
  have x0 : w1.cell? ⟨ug, 0, none⟩ = some (.int .i64 m.f) := cell_n hu rfl
  have x1 : w1.cell? ⟨ug, 1, none⟩ = some (.int .i64 m.t) := cell_n hu rfl
  have x2 : w1.cell? ⟨ug, 2, none⟩ = some (.string m.b) := cell_n hu rfl
  have hA1 := kept_block hb1 HA.out
  obtain ⟨c0, c1, c2⟩ := cells_3 hA1
  have f1 := free_of hA1
  obtain ⟨W2, hW2⟩ : ∃ z, ((w1.setCell ⟨g, 0, none⟩ (.int .i64 m.f)).setCell ⟨g, 1, none⟩ (.int .i64 m.t)).setCell ⟨g, 2, none⟩ (.string m.b) = z := ⟨_, rfl⟩
  have HX2 : Hid (W2.heap[g]? = some (.cells #[.int .i64 m.f, .int .i64 m.t, .string m.b] 23 (0, 0))) := by show _ = _; rw [← hW2]; exact fill_3 hA1
  have HB2 : Hid (Below w.heap.size w W2) := by show Below _ _ _; rw [← hW2]; exact fillB_3 (trans2 HBW.out hb1) (by rw [HG.out]; exact Nat.le_refl _)
  have HW2 : Hid (_ = W2) := hW2
  have hgu : ug ≠ g := fun e => by have h1 := (row_block hu ug rfl).1; have h2 := lt_of_blk HA.out; omega
  clear hu hb1 hA1 hW2 hm hsh
  go_upto_region 2 with fail
  rw [HW2.out]
  clear x0 x1 x2 c0 c1 c2 f1 hgu
  go_wp2_with fail
  refine Calls.mono (sv.new W2) ?_
  rintro e w3 ⟨b, K3, rfl, h3, hb3, hn3⟩
  have HT3 : Hid (TuI At w w3 K3 ln0 (.pointer (some ⟨b, 0, none⟩)) [(g, m)]) := ⟨h3, ok0, fun j hj => Nat.le_trans HB2.out.size (hn3 j hj), trans2 HB2.out hb3, fun x hx => by
    obtain rfl : x = (g, m) := by simpa using hx
    exact ⟨kept_block hb3 HX2.out, fun hk => by have h1 := hn3 _ hk; have h2 := lt_of_blk HX2.out; have h1 : W2.heap.size ≤ g := h1; omega⟩⟩
  clear h3 hb3 hn3
  obtain ⟨c0, c1, c2⟩ := cells_3 (HT3.out.boxes (g, m) (by simp)).1
  obtain ⟨W4, hW4⟩ : ∃ z, w3.alloc (.cells #[.int .i64 m.f, .int .i64 m.t, .string m.b, .int .i64 m.f, .int .i64 m.t, .string m.b] 23) = z := ⟨_, rfl⟩
  obtain ⟨g4, hg4⟩ : ∃ z, w3.heap.size = z := ⟨_, rfl⟩
  have hb4 : Below w3.heap.size w3 W4 := by rw [← hW4]; exact (Below.refl _ _).alloc (Nat.le_refl _) _
  have hA4 : W4.heap[g4]? = some (.cells #[.int .i64 m.f, .int .i64 m.t, .string m.b, .int .i64 m.f, .int .i64 m.t, .string m.b] 23 (0, 0)) := by rw [← hW4, ← hg4]; exact heap_alloc_new _ _
  have HT4 : Hid (TuI At w W4 K3 ln0 (.pointer (some ⟨b, 0, none⟩)) [(g, m)]) := HT3.out.at sv hb4
  have hsd := sv.send W4 K3 ln0 (.pointer (some ⟨b, 0, none⟩)) (.slice (some ⟨g4, 0, none⟩) 2 2) [m, m] (fun j => j = g4) HT4.out.at' ok0 ⟨_, 2, rfl, Nat.le_refl _, (fun h => by cases h), .inr ⟨g4, 0, rfl, rfl, lt_of_blk hA4, fun i x hi => by
      obtain ⟨c0, c1, c2, c3, c4, c5⟩ := cells_6b hA4
      match i, hi with
      | 0, hi =>
        obtain rfl : m = x := by simpa using hi
        exact ⟨c0, c1, c2⟩
      | 1, hi =>
        obtain rfl : m = x := by simpa using hi
        exact ⟨c3, c4, c5⟩
      | i + 2, hi => simp at hi⟩⟩ (fun j hj hk => by have := sv.lt HT3.out.at' j hk; omega) (fun x hx => by
        obtain rfl : x = m := by simpa using hx
        exact hm6) (by show 0 + 2 ≤ MaxG; decide) (by show 2 ≤ 1000; decide)
  rw [la_send] at hsd
  have hla : (la m).Ok := by
    have := ok0.send (l := [m, m]) (fun x hx => by
      obtain rfl : x = m := by simpa using hx
      exact hm6)
    rw [la_send] at this
    exact this
  have hlb : (lb m).Ok := by have := hla.dbl 1; rw [la_dbl] at this; exact this
  have HSD : Hid _ := hsd
  have HOK : Hid ((la m).Ok ∧ (lb m).Ok) := ⟨hla, hlb⟩
  have HW4 : Hid (_ = W4) := hW4
  have HG4 : Hid (w3.heap.size = g4) := hg4
  clear hsd hla hlb hW4 hg4 hb4 hA4
  go_wp2_with fail
  rw [HW4.out, HG4.out]
  clear c0 c1 c2
  refine Calls.mono HSD.out ?_
  rintro e w5 ⟨u5, K5, rfl, hu5, -, hE5⟩
  obtain ⟨u5a, u5c, rfl, _⟩ := row_form hu5
  have HT5 : Hid (TuI At w w5 K5 (la m) (.pointer (some ⟨b, 0, none⟩)) [(g, m)]) := HT4.out.call hE5 HOK.out.1
  clear hu5 hE5
  have hdb := sv.double w5 K5 (la m) (.pointer (some ⟨b, 0, none⟩)) 1 HT5.out.at' HT5.out.ok (by show 2 + 1 ≤ MaxG; decide) (by decide)
  rw [la_dbl] at hdb
  have HDB : Hid _ := hdb
  clear hdb
  go_wp2_with fail
  refine Calls.mono HDB.out ?_
  rintro e w6 ⟨K6, rfl, hE6⟩
  have HT6 : Hid (TuI At w w6 K6 (lb m) (.pointer (some ⟨b, 0, none⟩)) [(g, m)]) := HT5.out.call hE6 HOK.out.2
  clear hE6
  have hsp := sv.spoil w6 K6 (lb m) (.pointer (some ⟨b, 0, none⟩)) 1 a t HT6.out.at' HT6.out.ok (by decide)
  by_cases hbad : a < 0 ∨ t < 1 ∨ 255 < t ∨ m.b.size = 0
  · rw [lb_bad m hbad] at hsp
    have HSP : Hid _ := hsp
    clear hsp
    go_wp2_with fail
    refine Calls.mono HSP.out ?_
    rintro e w7 ⟨K7, rfl, hE7⟩
    have HT7 : Hid (TuI At w w7 K7 (lb m) (.pointer (some ⟨b, 0, none⟩)) [(g, m)]) := HT6.out.call hE7 HOK.out.2
    clear hE7
    have hlk := sv.look w7 K7 (lb m) (.pointer (some ⟨b, 0, none⟩)) 1 HT7.out.at' HT7.out.ok (by decide)
    rw [lb_look] at hlk
    have HLK : Hid _ := hlk
    clear hlk
    obtain ⟨c0, c1, c2⟩ := cells_3 (HT7.out.boxes (g, m) (by simp)).1
    have HFIN : Hid (∀ w' K' , TuI At w w' K' (lb m) (.pointer (some ⟨b, 0, none⟩)) [(g, m)] → True) := fun _ _ _ => trivial
    have key : ∀ (Z : Prop), (a < 0 → Z) → (¬ a < 0 → t < 1 → Z) → (¬ a < 0 → ¬ t < 1 → 255 < t → Z) → (¬ a < 0 → ¬ t < 1 → ¬ 255 < t → m.b.size = 0 → Z) → Z := fun Z h1 h2 h3 h4 => by
      by_cases e1 : a < 0
      · exact h1 e1
      by_cases e2 : t < 1
      · exact h2 e1 e2
      by_cases e3 : 255 < t
      · exact h3 e1 e2 e3
      exact h4 e1 e2 e3 (by omega)
    refine key _ (fun h1 => ?_) (fun h1 h2 => ?_) (fun h1 h2 h3 => ?_) (fun h1 h2 h3 h4 => ?_)
    all_goals
      clear key hbad
      try (have h4i : ((m.b.size : Int) == 0) = true := by rw [h4]; rfl)
      go_wp2_with fail
      refine Calls.mono HLK.out ?_
      rintro e w8 ⟨K8, rfl, hE8⟩
      have HT8 : Hid (TuI At w w8 K8 (lb m) (.pointer (some ⟨b, 0, none⟩)) [(g, m)]) := HT7.out.call hE8 HOK.out.2
      clear hE8
      have HT9 := HT8.out.al sv m
      obtain ⟨d0, d1, d2⟩ := cells_3 (HT9.boxes (g, m) (by simp)).1
      obtain ⟨e0, e1, e2⟩ := cells_3 (HT9.boxes (w8.heap.size, m) (by simp)).1
      have HB9 : Hid _ := HT9.below
      clear HT9
      go_wp2_with (first
        | (go_at_call 15; refine (num_any _ _).mono ?_; rintro e w' ⟨rfl, rfl⟩)
        | fail)
      refine Calls.mono (HKN.out _) ?_
      rintro e wz ⟨rfl, hbz⟩
      have HZ : Hid (Below w.heap.size w wz) := trans2 HB9.out hbz
      clear hbz
      go_wp2_with fail
      go_ret
      exact ⟨rfl, HZ.out⟩
  · have ht : 1 ≤ t ∧ t ≤ 255 := by omega
    have hs0 : m.b.size ≠ 0 := by omega
    have ha0 : ¬ a < 0 := by omega
    rw [lb_spl m hbad] at hsp
    obtain ⟨tb, htb⟩ : ∃ z, tnB m.b a t = z := ⟨_, rfl⟩
    have HNR : Hid (Near ⟨m.f, m.t, tb⟩ m) := by rw [← htb]; exact near_tn m ht
    have htz : tb.size = m.b.size := by rw [← htb]; exact tnB_size _ _ _
    have HNE : Hid (tb ≠ m.b) := by rw [← htb]; exact tn_ne ht hs0
    have hlc : (lc m ⟨m.f, m.t, tb⟩).Ok := by have := HOK.out.2.spl 1 a t; rw [lb_spl m hbad, htb] at this; exact this
    have hld : (ld m ⟨m.f, m.t, tb⟩).Ok := by have := hlc.dbl 1; rw [lc_dbl] at this; exact this
    have hle : (le' m ⟨m.f, m.t, tb⟩).Ok := by have := hld.spl 3 a t; rw [ld_spl3 m _ hbad, htb] at this; exact this
    have HOK2 : Hid ((lc m ⟨m.f, m.t, tb⟩).Ok ∧ (ld m ⟨m.f, m.t, tb⟩).Ok ∧ (le' m ⟨m.f, m.t, tb⟩).Ok) := ⟨hlc, hld, hle⟩
    have HBD : Hid (¬ (a < 0 ∨ t < 1 ∨ 255 < t ∨ m.b.size = 0)) := hbad
    have HBD2 : Hid (¬ (t < 1 ∨ 255 < t ∨ tb.size = 0)) := by show ¬ _; omega
    have HTB : Hid (tnB m.b a t = tb) := htb
    have HTZ : Hid (tb.size = m.b.size) := htz
    rw [htb] at hsp
    have HSP : Hid _ := hsp
    have g1 : ¬ t < 1 := by omega
    have g2 : ¬ 255 < t := by omega
    have g3 : ((m.b.size : Int) == 0) = false := by rw [beq_eq_false_iff_ne]; omega
    have HT1 : Hid (1 ≤ t ∧ t ≤ 255 ∧ m.b.size ≠ 0 ∧ 0 ≤ a) := by show _ ∧ _; omega
    clear hsp hlc hld hle hbad htb htz ht hs0
    go_wp2_with fail
    refine Calls.mono HSP.out ?_
    rintro e w7 ⟨K7, rfl, hE7⟩
    have HT7 : Hid (TuI At w w7 K7 (lc m ⟨m.f, m.t, tb⟩) (.pointer (some ⟨b, 0, none⟩)) [(g, m)]) := HT6.out.call hE7 HOK2.out.1
    clear hE7
    have hdb := sv.double w7 K7 (lc m ⟨m.f, m.t, tb⟩) (.pointer (some ⟨b, 0, none⟩)) 1 HT7.out.at' HT7.out.ok (by show 3 + 1 ≤ MaxG; decide) (by decide)
    rw [lc_dbl] at hdb
    have HDB2 : Hid _ := hdb
    clear hdb
    obtain ⟨c0, c1, c2⟩ := cells_3 (HT7.out.boxes (g, m) (by simp)).1
    go_wp2_with fail
    refine Calls.mono HDB2.out ?_
    rintro e w8 ⟨K8, rfl, hE8⟩
    have HTX8 : Hid (TuI At w w8 K8 (ld m ⟨m.f, m.t, tb⟩) (.pointer (some ⟨b, 0, none⟩)) [(g, m)]) := HT7.out.call hE8 HOK2.out.2.1
    clear hE8 c0 c1 c2
    have hlk9 := sv.look w8 K8 (ld m ⟨m.f, m.t, tb⟩) (.pointer (some ⟨b, 0, none⟩)) 1 HTX8.out.at' HTX8.out.ok (by decide)
    rw [ld_look1] at hlk9
    have HLK9 : Hid _ := hlk9
    clear hlk9
    go_wp2_with fail
    refine Calls.mono HLK9.out ?_
    rintro e w9 ⟨K9, rfl, hE9⟩
    obtain ⟨W9, hW9⟩ : ∃ z, w9.alloc (.cells #[.int .i64 m.f, .int .i64 m.t, .string tb] 23) = z := ⟨_, rfl⟩
    obtain ⟨g9, hg9⟩ : ∃ z, w9.heap.size = z := ⟨_, rfl⟩
    have HTX9 : Hid (TuI At w W9 K9 (ld m ⟨m.f, m.t, tb⟩) (.pointer (some ⟨b, 0, none⟩)) ((g9, ⟨m.f, m.t, tb⟩) :: [(g, m)])) := by
      have h9 := (HTX8.out.call hE9 HOK2.out.2.1).al sv ⟨m.f, m.t, tb⟩
      rw [← hW9, ← hg9]
      exact h9
    have HWX9 : Hid (_ = W9) := hW9
    have HGX9 : Hid (w9.heap.size = g9) := hg9
    clear hE9 hW9 hg9
    go_upto_region 13 with fail
    rw [HWX9.out, HGX9.out]
    have hlk10 := sv.look W9 K9 (ld m ⟨m.f, m.t, tb⟩) (.pointer (some ⟨b, 0, none⟩)) 2 HTX9.out.at' HTX9.out.ok (by decide)
    rw [ld_look2] at hlk10
    have HLK10 : Hid _ := hlk10
    clear hlk10
    go_wp2_with fail
    refine Calls.mono HLK10.out ?_
    rintro e w10 ⟨K10, rfl, hE10⟩
    obtain ⟨W10, hW10⟩ : ∃ z, w10.alloc (.cells #[.int .i64 m.f, .int .i64 m.t, .string m.b] 23) = z := ⟨_, rfl⟩
    obtain ⟨g10, hg10⟩ : ∃ z, w10.heap.size = z := ⟨_, rfl⟩
    have HTX10 : Hid (TuI At w W10 K10 (ld m ⟨m.f, m.t, tb⟩) (.pointer (some ⟨b, 0, none⟩)) ((g10, m) :: ((g9, ⟨m.f, m.t, tb⟩) :: [(g, m)]))) := by
      have h9 := (HTX9.out.call hE10 HOK2.out.2.1).al sv m
      rw [← hW10, ← hg10]
      exact h9
    have HWX10 : Hid (_ = W10) := hW10
    have HGX10 : Hid (w10.heap.size = g10) := hg10
    clear hE10 hW10 hg10
    go_upto_region 14 with fail
    rw [HWX10.out, HGX10.out]
    have hlk11 := sv.look W10 K10 (ld m ⟨m.f, m.t, tb⟩) (.pointer (some ⟨b, 0, none⟩)) 3 HTX10.out.at' HTX10.out.ok (by decide)
    rw [ld_look3] at hlk11
    have HLK11 : Hid _ := hlk11
    clear hlk11
    go_wp2_with fail
    refine Calls.mono HLK11.out ?_
    rintro e w11 ⟨K11, rfl, hE11⟩
    obtain ⟨W11, hW11⟩ : ∃ z, w11.alloc (.cells #[.int .i64 m.f, .int .i64 m.t, .string m.b] 23) = z := ⟨_, rfl⟩
    obtain ⟨g11, hg11⟩ : ∃ z, w11.heap.size = z := ⟨_, rfl⟩
    have HTX11 : Hid (TuI At w W11 K11 (ld m ⟨m.f, m.t, tb⟩) (.pointer (some ⟨b, 0, none⟩)) ((g11, m) :: ((g10, m) :: ((g9, ⟨m.f, m.t, tb⟩) :: [(g, m)])))) := by
      have h9 := (HTX10.out.call hE11 HOK2.out.2.1).al sv m
      rw [← hW11, ← hg11]
      exact h9
    have HWX11 : Hid (_ = W11) := hW11
    have HGX11 : Hid (w11.heap.size = g11) := hg11
    clear hE11 hW11 hg11
    go_upto_region 15 with fail
    rw [HWX11.out, HGX11.out]
    have hlk12 := sv.look W11 K11 (ld m ⟨m.f, m.t, tb⟩) (.pointer (some ⟨b, 0, none⟩)) 4 HTX11.out.at' HTX11.out.ok (by decide)
    rw [ld_look4] at hlk12
    have HLK12 : Hid _ := hlk12
    clear hlk12
    go_wp2_with fail
    refine Calls.mono HLK12.out ?_
    rintro e w12 ⟨K12, rfl, hE12⟩
    obtain ⟨W12, hW12⟩ : ∃ z, w12.alloc (.cells #[.int .i64 m.f, .int .i64 m.t, .string tb] 23) = z := ⟨_, rfl⟩
    obtain ⟨g12, hg12⟩ : ∃ z, w12.heap.size = z := ⟨_, rfl⟩
    have HTX12 : Hid (TuI At w W12 K12 (ld m ⟨m.f, m.t, tb⟩) (.pointer (some ⟨b, 0, none⟩)) ((g12, ⟨m.f, m.t, tb⟩) :: ((g11, m) :: ((g10, m) :: ((g9, ⟨m.f, m.t, tb⟩) :: [(g, m)]))))) := by
      have h9 := (HTX11.out.call hE12 HOK2.out.2.1).al sv ⟨m.f, m.t, tb⟩
      rw [← hW12, ← hg12]
      exact h9
    have HWX12 : Hid (_ = W12) := hW12
    have HGX12 : Hid (w12.heap.size = g12) := hg12
    clear hE12 hW12 hg12
    go_upto_region 16 with fail
    rw [HWX12.out, HGX12.out]
    obtain ⟨c0, c1, c2⟩ := cells_3 (HTX12.out.boxes (g, m) (by simp)).1
    obtain ⟨d0, d1, d2⟩ := cells_3 (HTX12.out.boxes (g9, ⟨m.f, m.t, tb⟩) (by simp)).1
    obtain ⟨e0, e1, e2⟩ := cells_3 (HTX12.out.boxes (g10, m) (by simp)).1
    obtain ⟨i0, i1, i2⟩ := cells_3 (HTX12.out.boxes (g11, m) (by simp)).1
    obtain ⟨j0, j1, j2⟩ := cells_3 (HTX12.out.boxes (g12, ⟨m.f, m.t, tb⟩) (by simp)).1
    have ne1 : (tb.toList == m.b.toList) = false := by
      rw [ByteArray.toList_eq, ByteArray.toList_eq]
      rw [beq_eq_false_iff_ne]
      exact fun e => HNE.out (by cases tb; cases hh : m.b; rw [hh] at e; simpa using e)
    have HNC : Hid (∀ w', _) := fun w' => near_ok ⟨m.f, m.t, tb⟩ m w' HNR.out (by show tb.size ≤ 1000000; rw [HTZ.out]; omega)
    go_wp2_with (first
      | (go_at_call 15; refine (num_any _ _).mono ?_; rintro e w' ⟨rfl, hw'⟩; have hw2 := hw'.symm; subst hw2)
      | fail)
    refine Calls.mono (HNC.out _) ?_
    rintro e w13 ⟨rfl, hb13⟩
    have HTX13 : Hid (TuI At w w13 K12 (ld m ⟨m.f, m.t, tb⟩) (.pointer (some ⟨b, 0, none⟩)) ((g12, ⟨m.f, m.t, tb⟩) :: ((g11, m) :: ((g10, m) :: ((g9, ⟨m.f, m.t, tb⟩) :: [(g, m)]))))) := HTX12.out.at sv hb13
    clear hb13 c0 c1 c2 d0 d1 d2 e0 e1 e2 i0 i1 i2 j0 j1 j2
    obtain ⟨c0, c1, c2⟩ := cells_3 (HTX13.out.boxes (g, m) (by simp)).1
    obtain ⟨d0, d1, d2⟩ := cells_3 (HTX13.out.boxes (g9, ⟨m.f, m.t, tb⟩) (by simp)).1
    obtain ⟨n, hn⟩ : ∃ z, m.b.size = z := ⟨_, rfl⟩
    have hn2 : tb.size = n := by rw [HTZ.out, hn]
    obtain ⟨r, hr⟩ : ∃ z, a.toNat % m.b.size = z := ⟨_, rfl⟩
    have hr2 : r < n := by rw [← hr, hn]; exact Nat.mod_lt _ (by have := HT1.out.2.2.1; omega)
    have hr1 : a.tmod (n : Int) = (r : Int) := by
      obtain ⟨k, rfl⟩ := Int.eq_ofNat_of_zero_le HT1.out.2.2.2
      rw [← hr, hn, ← Int.ofNat_tmod]
      simp
    have hra : r < tb.size := by omega
    have hrb : r < m.b.size := by omega
    have ea := nb_eq hra
    have eb := nb_eq hrb
    have ht8 : IntKind.u8.wrap t = t := by have := HT1.out; unfold IntKind.wrap; simp [IntKind.bits, IntKind.signed]; omega
    have hxe : nb tb r = bits .xor .u8 (nb m.b r) t := by
      have h9 := nb_tn (s := m.b) (a := a) (t := t) ⟨HT1.out.1, HT1.out.2.1⟩ hrb
      rw [HTB.out, if_pos hr.symm] at h9
      exact h9
    have hx1 : (nb tb r != bits .xor .u8 (nb m.b r) t) = false := by rw [← hxe]; simp
    have hri : (r : Int) < (n : Int) := by omega
    have hnz : ((n : Int) == 0) = false := by rw [beq_eq_false_iff_ne]; omega
    have HN : Hid (m.b.size = n) := hn
    clear hr hxe g3
    go_upto_region 19 with fail
    go_quiet (fail)
    have HTX14 : Hid (TuI At w (w13.drewN nq) K12 (ld m ⟨m.f, m.t, tb⟩) (.pointer (some ⟨b, 0, none⟩)) ((g12, ⟨m.f, m.t, tb⟩) :: ((g11, m) :: ((g10, m) :: ((g9, ⟨m.f, m.t, tb⟩) :: [(g, m)]))))) := HTX13.out.at sv (below_drewN (Below.refl _ _) _)
    obtain ⟨w14, hw14⟩ : ∃ z, w13.drewN nq = z := ⟨_, rfl⟩
    rw [hw14] at HTX14 ⊢
    obtain ⟨c9, hc9⟩ : ∃ z : Int, (if again < 0 then 1 else 161) = z := ⟨_, rfl⟩
    have hsp1 := sv.spoil w14 K12 (ld m ⟨m.f, m.t, tb⟩) (.pointer (some ⟨b, 0, none⟩)) 1 again t HTX14.out.at' HTX14.out.ok (by decide)
    rw [ld_spl1 m ⟨m.f, m.t, tb⟩ HBD2.out, hc9] at hsp1
    have HSP1 : Hid _ := hsp1
    have HC9 : Hid ((if again < 0 then (1 : Int) else 161) = c9) := hc9
    clear hsp1 hc9 hw14 c0 c1 c2 d0 d1 d2 hx1 ea eb hr1 ht8
    go_wp2_with fail
    refine Calls.mono HSP1.out ?_
    rintro e w15 ⟨K15, rfl, hE15⟩
    have HTX15 : Hid (TuI At w w15 K15 (ld m ⟨m.f, m.t, tb⟩) (.pointer (some ⟨b, 0, none⟩)) ((g12, ⟨m.f, m.t, tb⟩) :: ((g11, m) :: ((g10, m) :: ((g9, ⟨m.f, m.t, tb⟩) :: [(g, m)]))))) := HTX14.out.call hE15 HOK2.out.2.1
    have hsp2 := sv.spoil w15 K15 (ld m ⟨m.f, m.t, tb⟩) (.pointer (some ⟨b, 0, none⟩)) 4 again t HTX15.out.at' HTX15.out.ok (by decide)
    rw [ld_spl4 m ⟨m.f, m.t, tb⟩ HBD2.out, HC9.out] at hsp2
    have HSP2 : Hid _ := hsp2
    clear hsp2 hE15
    go_wp2_with fail
    refine Calls.mono HSP2.out ?_
    rintro e w16 ⟨K16, rfl, hE16⟩
    have HTX16 : Hid (TuI At w w16 K16 (ld m ⟨m.f, m.t, tb⟩) (.pointer (some ⟨b, 0, none⟩)) ((g12, ⟨m.f, m.t, tb⟩) :: ((g11, m) :: ((g10, m) :: ((g9, ⟨m.f, m.t, tb⟩) :: [(g, m)]))))) := HTX15.out.call hE16 HOK2.out.2.1
    have hsp3 := sv.spoil w16 K16 (ld m ⟨m.f, m.t, tb⟩) (.pointer (some ⟨b, 0, none⟩)) 3 a t HTX16.out.at' HTX16.out.ok (by decide)
    rw [ld_spl3 m ⟨m.f, m.t, tb⟩ HBD.out, HTB.out] at hsp3
    have HSP3 : Hid _ := hsp3
    clear hsp3 hE16
    go_wp2_with fail
    refine Calls.mono HSP3.out ?_
    rintro e w17 ⟨K17, rfl, hE17⟩
    have HTX17 : Hid (TuI At w w17 K17 (le' m ⟨m.f, m.t, tb⟩) (.pointer (some ⟨b, 0, none⟩)) ((g12, ⟨m.f, m.t, tb⟩) :: ((g11, m) :: ((g10, m) :: ((g9, ⟨m.f, m.t, tb⟩) :: [(g, m)]))))) := HTX16.out.call hE17 HOK2.out.2.2
    have hlk18 := sv.look w17 K17 (le' m ⟨m.f, m.t, tb⟩) (.pointer (some ⟨b, 0, none⟩)) 3 HTX17.out.at' HTX17.out.ok (by decide)
    rw [le_look] at hlk18
    have HLK18 : Hid _ := hlk18
    clear hlk18 hE17
    go_wp2_with fail
    refine Calls.mono HLK18.out ?_
    rintro e w18 ⟨K18, rfl, hE18⟩
    obtain ⟨W18, hW18⟩ : ∃ z, w18.alloc (.cells #[.int .i64 m.f, .int .i64 m.t, .string tb] 23) = z := ⟨_, rfl⟩
    obtain ⟨g18, hg18⟩ : ∃ z, w18.heap.size = z := ⟨_, rfl⟩
    have HTX18 : Hid (TuI At w W18 K18 (le' m ⟨m.f, m.t, tb⟩) (.pointer (some ⟨b, 0, none⟩)) ((g18, ⟨m.f, m.t, tb⟩) :: ((g12, ⟨m.f, m.t, tb⟩) :: ((g11, m) :: ((g10, m) :: ((g9, ⟨m.f, m.t, tb⟩) :: [(g, m)])))))) := by
      have h9 := (HTX17.out.call hE18 HOK2.out.2.2).al sv ⟨m.f, m.t, tb⟩
      rw [← hW18, ← hg18]
      exact h9
    have HWX18 : Hid (_ = W18) := hW18
    have HGX18 : Hid (w18.heap.size = g18) := hg18
    clear hE18 hW18 hg18
    go_upto_region 25 with fail
    rw [HWX18.out, HGX18.out]
    obtain ⟨d0, d1, d2⟩ := cells_3 (HTX18.out.boxes (g9, ⟨m.f, m.t, tb⟩) (by simp)).1
    obtain ⟨e0, e1, e2⟩ := cells_3 (HTX18.out.boxes (g18, ⟨m.f, m.t, tb⟩) (by simp)).1
    have hd := Classical.em (again < 0)
    rcases hd with hag | hag
    · have h9 := HC9.out
      rw [if_pos hag] at h9
      subst h9
      have hag2 : ¬ 0 ≤ again := by omega
      go_wp2_with (first
        | (go_at_call 15; refine (num_any _ _).mono ?_; rintro e w' ⟨rfl, hw'⟩; have hw2 := hw'.symm; subst hw2)
        | fail)
      refine Calls.mono (HKN.out _) ?_
      rintro e wz ⟨rfl, hbz⟩
      have HZ : Hid (Below w.heap.size w wz) := trans2 HTX18.out.below hbz
      clear hbz
      go_wp2_with fail
      go_ret
      exact ⟨rfl, HZ.out⟩
    · have h9 := HC9.out
      rw [if_neg hag] at h9
      subst h9
      have hag2 : 0 ≤ again := by omega
      go_wp2_with (first
        | (go_at_call 15; refine (num_any _ _).mono ?_; rintro e w' ⟨rfl, hw'⟩; have hw2 := hw'.symm; subst hw2)
        | fail)
      refine Calls.mono (HKN.out _) ?_
      rintro e wz ⟨rfl, hbz⟩
      have HZ : Hid (Below w.heap.size w wz) := trans2 HTX18.out.below hbz
      clear hbz
      go_wp2_with fail
      go_ret
      exact ⟨rfl, HZ.out⟩
end Go.Proofs.Ytfcobhgjkibdgaa
