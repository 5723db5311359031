/-
  tree: the places of all nodes, in their order.
-/
import Derived.Test.YtmbomdhhiioigaaGreatDoorTOps
import Derived.Test.YtmbomdhhiioigaaGreatDoorRefOrder
import Derived.Test.YtmbomdhhiioigaaGreatDoorTSortP
import Derived.Test.YtmbomdhhiioigaaGreatDoorTLook
import Derived.Sort.OwnSorted
import Derived.Sort.KeysCollected
import Derived.Test.YtmbomdhhiioigaaGreatDoorTNone2
import Derived.Test.YtmbomdhhiioigaaGreatDoorTDrop
import Derived.Deep.AppendLies
import Derived.Maps.OwnOps
import Derived.Test.YtmbomdhhiioigaaGreatDoorTPlay3
import Derived.Laws.BytesArg
import Derived.WalkMore
namespace Go.Proofs.YtmbomdhhiioigaaGreatDoor
open Go.RowKit Go.Maps Go.Sort Go.Shelf
set_option linter.unusedVariables false

abbrev seqV (B : Nat) : Value := .func (.func 61) #[] #[.pointer (some ⟨B, 0, none⟩)]
theorem keys_any (mb : Option Nat) (w : World) :
    Calls Tryz.prog 38 #[.map mb] w fun e w' => e = .returned (seqV w.heap.size) ∧ w' = w.alloc (.cells #[.map mb] 66) :=
  (callsIn_wide (n := 5)).1 (AnyZ.keys_in Tryz.keysM Fence.wide 5 trivial rfl mb w)

theorem appSeq_any (B b n : Nat) (D : DataW Value) (w : World) (hB : B < w.heap.size) (hc : w.cell? ⟨B, 0, none⟩ = some (.map (some b))) (hm : MapAt w b n D) (hn : Maps.size D ≤ 1000000) :
    Calls Tryz.prog 86 #[.slice none 0 0, seqV B] w fun e w' => ∃ (v : Value) (ss : List (List UInt8)), e = .returned v ∧ ss.Perm (strKeys D) ∧ w'.ownsRow w.heap.size 9 1 v ss.length (ss.map encStr) ∧ (v = .slice none 0 0 ↔ ss = []) ∧ Below w.heap.size w w' :=
  (callsIn_wide (n := 5)).1 (AnyZ.appendSeq_in Tryz.appSeq Fence.wide 5 trivial rfl (by omega) 61 #[.pointer (some ⟨B, 0, none⟩)] trivial (enters_of Tryz.func61 (by kernel_rfl) rfl) (fun ss => ss.Perm (strKeys D)) (Maps.size D) (by unfold maxLen; omega) (by omega) w
    (AnyZ.keys_gives (ρ := Tryz.keysI_ren) Tryz.keysI Fence.wide 4 trivial rfl (by omega) B b n D w hB hc hm))

set_option maxHeartbeats 1000000 in
theorem collect_any (B b n : Nat) (D : DataW Value) (w : World) (hB : B < w.heap.size) (hc : w.cell? ⟨B, 0, none⟩ = some (.map (some b))) (hm : MapAt w b n D) (hn : Maps.size D ≤ 1000000) :
    Calls Tryz.prog 60 #[seqV B] w fun e w' => ∃ (v : Value) (ss : List (List UInt8)), e = .returned v ∧ ss.Perm (strKeys D) ∧ w'.ownsRow w.heap.size 9 1 v ss.length (ss.map encStr) ∧ (v = .slice none 0 0 ↔ ss = []) ∧ Below w.heap.size w w' := by
  have HA : Hid _ := appSeq_any B b n D w hB hc hm hn
  clear hB hc hm hn
  go_enter Tryz.func60, Tryz.ntmps60
  go_wp2_with (first | (go_at_call 86; refine Calls.mono HA.out ?_; rintro e w1 ⟨v, ss, rfl, hp, hr, hnil, hb⟩) | fail)
  go_ret
  exact ⟨v, ss, rfl, hp, hr, hnil, hb⟩

/-- In the order of places. -/
def Asc (ts : List (List UInt8)) : Prop := ts.Pairwise (fun x y => ordL x y ≠ 1)

set_option maxHeartbeats 1000000 in
theorem sorted_any (B b n : Nat) (D : DataW Value) (w : World) (hB : B < w.heap.size) (hc : w.cell? ⟨B, 0, none⟩ = some (.map (some b))) (hm : MapAt w b n D) (hn : Maps.size D ≤ 1000000) (hk : ∀ l ∈ strKeys D, l.length ≤ 1000) (hne : strKeys D ≠ []) (hkl : (strKeys D).length ≤ 1000000) :
    Calls Tryz.prog 37 #[seqV B, .func (.func 39) #[] #[]] w fun e w' => ∃ (g cap : Nat) (ts : List (List UInt8)), e = .returned (.slice (some ⟨g, 0, none⟩) ts.length cap) ∧ ts.Perm (strKeys D) ∧ Asc ts ∧ w'.ownsRow w.heap.size 9 1 (.slice (some ⟨g, 0, none⟩) ts.length cap) ts.length (ts.map encStr) ∧ Below w.heap.size w w' := by
  have HA : Hid _ := collect_any B b n D w hB hc hm hn
  have HK : Hid _ := hk
  have HNE : Hid _ := hne
  have HN : Hid ((strKeys D).length ≤ 1000000) := hkl
  clear hB hc hm hn hk hne hkl
  go_enter Tryz.func37, Tryz.ntmps37
  go_wp2_with fail
  refine Calls.mono HA.out ?_
  rintro e w1 ⟨v, ss, rfl, hp, hr, hnil, hb⟩
  have hss : ∀ l ∈ ss, l.length ≤ 1000 := fun l hl => HK.out l (hp.mem_iff.1 hl)
  have hlen : ss.length ≤ 1000000 := by rw [hp.length_eq]; exact HN.out
  rcases hr.2 with ⟨hv, _⟩ | ⟨g, cap, cur, hv, hbase, hb', h1, h2, h3, h4⟩
  · have := hnil.1 hv
    subst this
    exact absurd (List.perm_nil.1 hp.symm) HNE.out
  subst hv
  have hH : Holds encC w1 g 0 ss.toArray := fun j hj => by
    have h := holds_of_block hb' (by simpa using h4) j hj
    have hj' : j < ss.length := by simpa using hj
    have e : ss.toArray[j]! = ss[j] := by simp [hj']
    refine ⟨?_, h.2⟩
    rw [h.1, e]
    show some (encStr ss[j]) = some (encStr (cl ss[j]))
    rw [cl_id (hss _ (List.getElem_mem hj'))]
  have hcon := Any.slices_SortFunc Tryz.sortF encC (fun _ => rfl) cfC swoC 39 #[] g 0 cap ss.toArray w1 (enters_of Tryz.func39 (by kernel_rfl) rfl) (cmpC g 0 ss.toArray.size w1).lays hH (Array.getElem?_eq_some_iff.1 hb').1 (by simp; omega)
  have HCON : Hid (Calls Tryz.prog 56 #[.slice (some ⟨g, 0, none⟩) ss.length cap, .func (.func 39) #[] #[]] w1 fun e w' => e = .returned (.tuple #[]) ∧ ∃ d' n os, PermIn 0 ss.toArray.size ss.toArray d' ∧ SortedIn (ltOf cfC) 0 ss.toArray.size d' ∧ w' = sortWorld encC w1 g 0 n d' os) := hcon
  have HR : Hid (Go.RowKit.Below w.heap.size w w1) := hb
  have HS : Hid _ := hss
  have HP : Hid _ := hp
  have HX : Hid (w.heap.size ≤ g ∧ w1.heap[g]? = some (.cells cur 9 (0, 0)) ∧ ss.length ≤ cap ∧ cap ≤ maxLen ∧ cur.size = cap * 1) := ⟨hbase, hb', h1, h2, h3⟩
  clear hcon hH hr hnil hb hss hp hbase hb' h1 h2 h3 h4 hlen
  go_wp2_with (first | (go_at_call 56; refine Calls.mono HCON.out ?_; rintro e w2 ⟨rfl, d', nn, os, hpm, hso, rfl⟩) | fail)
  obtain ⟨ts, rfl⟩ : ∃ ts : List (List UInt8), d' = ts.toArray := ⟨d'.toList, by simp⟩
  have hl : ts.length = ss.length := by simpa using hpm.1
  have hpp : ts.Perm ss := by
    have := hpm.2.2
    simpa [hl, List.take_of_length_le] using this
  have hts : ∀ l ∈ ts, l.length ≤ 1000 := fun l h => HS.out l (hpp.mem_iff.1 h)
  rw [putC hts]
  go_ret
  refine ⟨g, cap, ts, (by rw [hl] <;> rfl), hpp.trans HP.out, ?_, ?_, HR.out.grown (grownBy_sorted _) HR.out.size (fun j hj => by cases hj; exact HX.out.1)⟩
  · unfold Asc
    rw [List.pairwise_iff_getElem]
    intro i j hi hj hij e
    have hs := hso i j (Nat.zero_le _) hij (by simp; omega)
    have e1 : ts.toArray[j]! = ts[j] := by simp [hj]
    have e2 : ts.toArray[i]! = ts[i] := by simp [hi]
    rw [e1, e2] at hs
    have : ltOf cfC ts[j] ts[i] = true := by
      rw [lt_iff, cl_id (hts _ (List.getElem_mem hj)), cl_id (hts _ (List.getElem_mem hi)), ordL_anti, e]
    rw [this] at hs
    cases hs
  · have := ownsRow_sorted (n := nn) (os := os) hl HX.out.1 HX.out.2.1 HX.out.2.2.1 HX.out.2.2.2.1 HX.out.2.2.2.2
    rw [hl]
    exact this

set_option maxHeartbeats 1000000 in
/-- The places of all nodes, in their order. -/
theorem places_any (b n : Nat) (D : DataW Value) (w : World) (hm : MapAt w b n D) (hn : Maps.size D ≤ 1000000) (hk : ∀ l ∈ strKeys D, l.length ≤ 1000) (hne : strKeys D ≠ []) :
    Calls Tryz.prog 23 #[.map (some b)] w fun e w' => ∃ (g cap : Nat) (ts : List (List UInt8)), e = .returned (.slice (some ⟨g, 0, none⟩) ts.length cap) ∧ ts.Perm (strKeys D) ∧ Asc ts ∧ w'.ownsRow w.heap.size 9 1 (.slice (some ⟨g, 0, none⟩) ts.length cap) ts.length (ts.map encStr) ∧ Go.RowKit.Below w.heap.size w w' := by
  have HS : Hid _ := sorted_any w.heap.size b n D (w.alloc (.cells #[.map (some b)] 66)) (by simp) (by simp) (map_below hm ((Go.RowKit.Below.refl _ _).alloc (Nat.le_refl _) _)) hn hk hne (by rw [size_of]; exact hn)
  clear hm hn hk hne
  go_enter Tryz.func23, Tryz.ntmps23
  go_wp2_with (first
    | (go_at_call 38; refine (keys_any _ _).mono ?_; rintro e w1 ⟨rfl, rfl⟩)
    | (go_at_call 37; refine Calls.mono HS.out ?_; rintro e w2 ⟨g, cap, ts, rfl, h1, h2, h3, h4⟩)
    | fail)
  go_ret
  exact ⟨g, cap, ts, rfl, h1, h2, ⟨h3.1, h3.2.imp id (fun ⟨g', c', cur, a, b, c⟩ => ⟨g', c', cur, a, by simp at b; omega, c⟩)⟩, trans2 ((Go.RowKit.Below.refl _ _).alloc (Nat.le_refl _) _) h4⟩
end Go.Proofs.YtmbomdhhiioigaaGreatDoor
namespace Go.Proofs.YtmbomdhhiioigaaGreatDoor
open Go.RowKit Go.Maps Go.Sort
set_option linter.unusedVariables false

end Go.Proofs.YtmbomdhhiioigaaGreatDoor
namespace Go.Proofs.YtmbomdhhiioigaaGreatDoor
open Go.RowKit Go.Maps
set_option linter.unusedVariables false
set_option linter.unusedSimpArgs false

theorem form_n {w : World} {B e s n : Nat} {v : Value} {xs : List Value} (h : w.ownsRow B e s v n xs) (hn : 0 < n) : ∃ g cap, v = .slice (some ⟨g, 0, none⟩) n cap := by
  rcases h.2 with ⟨_, h0⟩ | ⟨g, cap, _, hv, _⟩
  · omega
  · exact ⟨g, cap, hv⟩
theorem cell_n {w : World} {B e s n g cap k : Nat} {xs : List Value} {x : Value} (h : w.ownsRow B e s (.slice (some ⟨g, 0, none⟩) n cap) n xs) (hx : xs[k]? = some x) : w.cell? ⟨g, k, none⟩ = some x := by
  have hk : k < xs.length := (List.getElem?_eq_some_iff.1 hx).1
  rcases h.2 with ⟨h0, _⟩ | ⟨g', cap', cur, hv, _, hg, _, _, hsz, ht⟩
  · cases h0
  · cases hv
    have hkc : k < n * s := by have := h.1; omega
    have : cur[k]? = some x := by
      rw [← hx, ← ht, List.getElem?_take_of_lt hkc, Array.getElem?_toList]
    unfold World.cell?
    simp only [hg]
    exact this
end Go.Proofs.YtmbomdhhiioigaaGreatDoor
namespace Go.Proofs.YtmbomdhhiioigaaGreatDoor
open Go.RowKit Go.Maps
set_option linter.unusedVariables false
set_option linter.unusedSimpArgs false

structure OpT where
  k : Int
  p : ByteArray
  d : ByteArray
  v : Int
  f : Int
abbrev OpT.cells (o : OpT) : List Value := [.int .i64 o.k, .string o.p, .string o.d, .int .i64 o.v, .int .i64 o.f]
/-- The ops lie below base. -/
def OpsAt (w : World) (base : Nat) (a : Option Addr) (os : List OpT) : Prop :=
  ∀ i o, os[i]? = some o → ∃ b f, a = some ⟨b, f, none⟩ ∧ b < base ∧ ∀ j x, o.cells[j]? = some x → w.cell? ⟨b, f + i * 5 + j, none⟩ = some x
end Go.Proofs.YtmbomdhhiioigaaGreatDoor
