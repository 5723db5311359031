/-
  Sum by a contract.
-/
import Derived.Test.YtdjibjmhjofedacWMem
import Derived.Laws.BitsAllLaws
import Derived.Laws.BitsLemmas
namespace Go.Proofs.Ytdjibjmhjofedac
open Go.RowKit

/-- Half a byte, in the walk's words. -/
theorem half_step (r : Nat) (hr : r < 4294967296) : ∃ n t : Nat, n < 16 ∧ tab[n]? = some t ∧ bits .and .u32 (r : Int) 15 = (n : Int) ∧ bits .xor .u32 ((r : Int) / 16) (t : Int) = (turn4 r : Int) ∧ turn4 r < 4294967296 := by
  have hn : r % 16 < 16 := Nat.mod_lt _ (by omega)
  have hT : ∀ n : Fin 16, ∃ t, tab[n.val]? = some t ∧ t < 4294967296 := by decide
  obtain ⟨t, ht, htl⟩ := hT ⟨r % 16, hn⟩
  simp only at ht
  refine ⟨r % 16, t, hn, ht, ?_, ?_, turn4_lt hr⟩
  · have h := u32_and (r : Int) 15 (by omega) (by omega) (by omega) (by omega)
    rw [h]
    have : (r : Int).toNat &&& (15 : Int).toNat = r % 16 := by
      rw [Int.toNat_natCast]
      exact Nat.and_two_pow_sub_one_eq_mod r 4
    rw [this]
  · have h := u32_xor ((r : Int) / 16) (t : Int) (by omega) (by omega) (by omega) (by omega)
    rw [h, turn4_tab, ht]
    have : ((r : Int) / 16).toNat = r / 16 := by omega
    rw [this]
    simp

theorem byte_in (r : Nat) (hr : r < 4294967296) (x : Int) (hx : 0 ≤ x ∧ x < 256) : bits .xor .u32 (r : Int) x = ((r ^^^ x.toNat : Nat) : Int) := by
  have h := u32_xor (r : Int) x (by omega) (by omega) (by omega) (by omega)
  rw [h, Int.toNat_natCast]

theorem not_in (r : Nat) (hr : r < 4294967296) : bits .xor .u32 IntKind.u32.max (r : Int) = ((r ^^^ 4294967295 : Nat) : Int) := by
  have h := u32_xor 4294967295 (r : Int) (by omega) (by omega) (by omega) (by omega)
  rw [show IntKind.u32.max = 4294967295 by rfl, h, Int.toNat_natCast, Nat.xor_comm]
  rfl

theorem regs_step {r : Nat} {xs : List Int} {k : Nat} {x : Int} (hx : xs[k]? = some x) : regs r (xs.take (k + 1)) = turn4 (turn4 (regs r (xs.take k) ^^^ x.toNat)) := by
  rw [List.take_add_one, hx, regs_append]
  rfl

theorem tab_cells (w : World) : ∀ n t : Nat, tab[n]? = some t → (w.alloc (.cells #[.int .u32 0, .int .u32 498536548, .int .u32 997073096, .int .u32 651767980, .int .u32 1994146192, .int .u32 1802195444, .int .u32 1303535960, .int .u32 1342533948, .int .u32 3988292384, .int .u32 4027552580, .int .u32 3604390888, .int .u32 3412177804, .int .u32 2607071920, .int .u32 2262029012, .int .u32 2685067896, .int .u32 3183342108] 71)).cell? ⟨w.heap.size, n, none⟩ = some (.int .u32 t) := by
  intro n t h
  rw [cell_of_row _ w.heap.size n _ _ (0, 0) (heap_alloc_new w _)]
  have hn : n < 16 := (List.getElem?_eq_some_iff.1 h).1
  have : ∀ n : Fin 16, (tab[n.val]?).map (fun t => Value.int .u32 ((t : Nat) : Int)) = (#[Value.int .u32 0, .int .u32 498536548, .int .u32 997073096, .int .u32 651767980, .int .u32 1994146192, .int .u32 1802195444, .int .u32 1303535960, .int .u32 1342533948, .int .u32 3988292384, .int .u32 4027552580, .int .u32 3604390888, .int .u32 3412177804, .int .u32 2607071920, .int .u32 2262029012, .int .u32 2685067896, .int .u32 3183342108] : Array Value)[n.val]? := by
    intro n
    match n with
    | ⟨0, _⟩ => rfl
    | ⟨1, _⟩ => rfl
    | ⟨2, _⟩ => rfl
    | ⟨3, _⟩ => rfl
    | ⟨4, _⟩ => rfl
    | ⟨5, _⟩ => rfl
    | ⟨6, _⟩ => rfl
    | ⟨7, _⟩ => rfl
    | ⟨8, _⟩ => rfl
    | ⟨9, _⟩ => rfl
    | ⟨10, _⟩ => rfl
    | ⟨11, _⟩ => rfl
    | ⟨12, _⟩ => rfl
    | ⟨13, _⟩ => rfl
    | ⟨14, _⟩ => rfl
    | ⟨15, _⟩ => rfl
    | ⟨n + 16, h⟩ => omega
  have := this ⟨n, hn⟩
  simp only [h] at this
  exact this.symm

set_option maxHeartbeats 1600000 in
set_option maxRecDepth 100000 in
theorem sum_some (b o c : Nat) (xs : List Int) (w : World) (hlt : b < w.heap.size) (hs : ∀ (j : Nat) (z : Int), xs[j]? = some z → w.cell? ⟨b, o + j, none⟩ = some (.int .u8 z)) (hb : Byt xs) (hm : xs.length ≤ 9223372036854775807) :
    Calls Try.prog 28 #[.slice (some ⟨b, o, none⟩) xs.length c] w fun e w' => e = .returned (.int .i64 (crc xs)) ∧ Below w.heap.size w w' := by
  have HT : Hid _ := tab_cells w
  have hbel : Below w.heap.size w (w.alloc (.cells #[.int .u32 0, .int .u32 498536548, .int .u32 997073096, .int .u32 651767980, .int .u32 1994146192, .int .u32 1802195444, .int .u32 1303535960, .int .u32 1342533948, .int .u32 3988292384, .int .u32 4027552580, .int .u32 3604390888, .int .u32 3412177804, .int .u32 2607071920, .int .u32 2262029012, .int .u32 2685067896, .int .u32 3183342108] 71)) := (Below.refl _ _).alloc (Nat.le_refl _) _
  have HB : Hid _ := hbel
  have HS : Hid _ := hs
  have HY : Hid _ := hb
  have HLT : Hid _ := hlt
  clear hbel hs hb hlt
  go_enter Try.func28, Try.ntmps28
  go_wp2
  generalize World.alloc w _ = w1 at HT HB ⊢
  generalize Value.agg _ = u7
  obtain ⟨g, hg⟩ : ∃ g, w.heap.size = g := ⟨_, rfl⟩
  have HG : Hid _ := hg
  rw [hg] at HT ⊢
  clear hg
  have HS1 : Hid (∀ (j : Nat) (z : Int), xs[j]? = some z → w1.cell? ⟨b, o + j, none⟩ = some (.int .u8 z)) := fun j z hz => by
    rw [HB.out.cell (p := ⟨b, o + j, none⟩) HLT.out]
    exact HS.out j z hz
  clear HS
  go_loop [4, 10] (fun r i => ∃ k : Nat, r = .int .u32 (regs 4294967295 (xs.take k)) ∧ i = .int .i64 k ∧ k ≤ xs.length) (fun _ i => xs.length - (intOf i).toNat)
  case atStart => exact ⟨0, rfl, rfl, by omega⟩
  case round =>
    obtain ⟨k, rfl, rfl, hk⟩ := hrel
    by_cases hlt : k < xs.length
    · obtain ⟨x, hx⟩ : ∃ x, xs[k]? = some x := ⟨xs[k], List.getElem?_eq_getElem hlt⟩
      have hc := HS1.out k x hx
      have hxb := Byt.at HY.out hx
      have hreg : regs 4294967295 (xs.take k) < 4294967296 := regs_lt (by omega) (Byt.take HY.out k)
      have hst := regs_step (r := 4294967295) hx
      generalize regs 4294967295 (xs.take k) = R at hreg hst ⊢
      have hin := byte_in R hreg x hxb
      have hR1 : R ^^^ x.toNat < 4294967296 := xor_lt32 hreg (by omega)
      generalize R ^^^ x.toNat = R1 at hin hR1 hst
      obtain ⟨n1, t1, hn1, ht1, hand1, hxor1, hR2⟩ := half_step R1 hR1
      have hc1 := HT.out n1 t1 ht1
      generalize turn4 R1 = R2 at hxor1 hR2 hst
      obtain ⟨n2, t2, hn2, ht2, hand2, hxor2, hR3⟩ := half_step R2 hR2
      have hc2 := HT.out n2 t2 ht2
      generalize turn4 R2 = R3 at hxor2 hR3 hst
      have HST : Hid _ := hst
      have hx32 : x % 4294967296 = x := by omega
      have hi1 : (n1 : Int) < 16 := by omega
      have hi2 : (n2 : Int) < 16 := by omega
      clear hst hx ht1 ht2 hR1
      go_wp2
      exact ⟨⟨k + 1, by rw [HST.out], by go_num, by omega⟩, by simp [intOf]; omega⟩
    · obtain rfl : k = xs.length := by omega
      have hreg : regs 4294967295 (xs.take xs.length) < 4294967296 := regs_lt (by omega) (Byt.take HY.out _)
      have hst : crc xs = regs 4294967295 (xs.take xs.length) ^^^ 4294967295 := by rw [List.take_length]; rfl
      generalize regs 4294967295 (xs.take xs.length) = R at hreg hst ⊢
      have hnot := not_in R hreg
      have hC : R ^^^ 4294967295 < 4294967296 := xor_lt32 hreg (by omega)
      have hsg : IntKind.u32.signed = false := rfl
      generalize R ^^^ 4294967295 = C at hst hnot hC
      have HST : Hid _ := hst
      clear hst HT HS1 HY
      go_wp2
      go_ret
      refine ⟨?_, HB.out⟩
      rw [HST.out]
      rfl

/-- Sum of any bytes. -/
theorem sum_any (a : Option Addr) (c : Nat) (xs : List Int) (w : World) (hx : Bys w a xs) (hb : Byt xs) (hm : xs.length ≤ maxLen) :
    Calls Try.prog 28 #[.slice a xs.length c] w fun e w' => e = .returned (.int .i64 (crc xs)) ∧ Below w.heap.size w w' := by
  unfold maxLen at hm
  rcases hx with rfl | ⟨b, o, rfl, h1, hs⟩
  · have hbel : Below w.heap.size w (w.alloc (.cells #[.int .u32 0, .int .u32 498536548, .int .u32 997073096, .int .u32 651767980, .int .u32 1994146192, .int .u32 1802195444, .int .u32 1303535960, .int .u32 1342533948, .int .u32 3988292384, .int .u32 4027552580, .int .u32 3604390888, .int .u32 3412177804, .int .u32 2607071920, .int .u32 2262029012, .int .u32 2685067896, .int .u32 3183342108] 71)) := (Below.refl _ _).alloc (Nat.le_refl _) _
    have HB : Hid _ := hbel
    have hnot : bits .xor .u32 IntKind.u32.max 4294967295 = 0 := not_in 4294967295 (by omega)
    have e0 : crc [] = 0 := by rfl
    have HE : Hid _ := e0
    have hsg : IntKind.u32.signed = false := rfl
    clear hbel e0 hb
    go_enter Try.func28, Try.ntmps28
    go_wp2
    generalize World.alloc w _ = w1 at HB ⊢
    generalize Value.agg _ = u7
    refine wp_loop_rounds 1 ?_
    rw [rounds_succ]
    go_wp2
    go_ret
    exact ⟨by rw [HE.out]; rfl, HB.out⟩
  · exact sum_some b o c xs w h1 hs hb hm
end Go.Proofs.Ytdjibjmhjofedac
