import Derived.Test.YtliafokjdngejaaGreatDoorTBase
import Derived.Test.YtliafokjdngejaaGreatDoorLine
import Derived.Test.YtliafokjdngejaaGreatDoorTSortP
import Derived.Test.YtliafokjdngejaaGreatDoorTLook
import Derived.Sort.OwnSorted
import Derived.Sort.KeysCollected
import Derived.Test.YtliafokjdngejaaGreatDoorTPlay1
import Derived.Test.YtliafokjdngejaaGreatDoorTMake
import Derived.Deep.AppendLies
import Derived.Maps.OwnOps
namespace Go.Proofs.YtliafokjdngejaaGreatDoor
open Go.RowKit Go.Maps Go.Sort Go.Shelf
set_option linter.unusedVariables false

abbrev seqV (B : Nat) : Value := .func (.func 91) #[] #[.pointer (some ⟨B, 0, none⟩)]
theorem keys_any (mb : Option Nat) (w : World) :
    Calls Tryz.prog 66 #[.map mb] w fun e w' => e = .returned (seqV w.heap.size) ∧ w' = w.alloc (.cells #[.map mb] 73) :=
  (callsIn_wide (n := 5)).1 (AnyZ.keys_in Tryz.keysM Fence.wide 5 trivial rfl mb w)

theorem appSeq_any (B b n : Nat) (D : DataW Value) (w : World) (hB : B < w.heap.size) (hc : w.cell? ⟨B, 0, none⟩ = some (.map (some b))) (hm : MapAt w b n D) (hn : Maps.size D ≤ 1000000) :
    Calls Tryz.prog 109 #[.slice none 0 0, seqV B] w fun e w' => ∃ (v : Value) (ss : List (List UInt8)), e = .returned v ∧ ss.Perm (strKeys D) ∧ w'.ownsRow w.heap.size 9 1 v ss.length (ss.map encStr) ∧ (v = .slice none 0 0 ↔ ss = []) ∧ Below w.heap.size w w' :=
  (callsIn_wide (n := 5)).1 (AnyZ.appendSeq_in Tryz.appSeq Fence.wide 5 trivial rfl (by omega) 91 #[.pointer (some ⟨B, 0, none⟩)] trivial (enters_of Tryz.func91 (by kernel_rfl) rfl) (fun ss => ss.Perm (strKeys D)) (Maps.size D) (by unfold maxLen; omega) (by omega) w
    (AnyZ.keys_gives (ρ := Tryz.keysI_ren) Tryz.keysI Fence.wide 4 trivial rfl (by omega) B b n D w hB hc hm))

set_option maxHeartbeats 1000000 in
theorem collect_any (B b n : Nat) (D : DataW Value) (w : World) (hB : B < w.heap.size) (hc : w.cell? ⟨B, 0, none⟩ = some (.map (some b))) (hm : MapAt w b n D) (hn : Maps.size D ≤ 1000000) :
    Calls Tryz.prog 90 #[seqV B] w fun e w' => ∃ (v : Value) (ss : List (List UInt8)), e = .returned v ∧ ss.Perm (strKeys D) ∧ w'.ownsRow w.heap.size 9 1 v ss.length (ss.map encStr) ∧ (v = .slice none 0 0 ↔ ss = []) ∧ Below w.heap.size w w' := by
  have HA : Hid _ := appSeq_any B b n D w hB hc hm hn
  clear hB hc hm hn
  go_enter Tryz.func90, Tryz.ntmps90
  go_wp2_with (first | (go_at_call 109; refine Calls.mono HA.out ?_; rintro e w1 ⟨v, ss, rfl, hp, hr, hnil, hb⟩) | fail)
  go_ret
  exact ⟨v, ss, rfl, hp, hr, hnil, hb⟩

/-- In the order of places. -/
def Asc (ts : List (List UInt8)) : Prop := ts.Pairwise (fun x y => ordL x y ≠ 1)

set_option maxHeartbeats 1000000 in
theorem sorted_any (B b n : Nat) (D : DataW Value) (w : World) (hB : B < w.heap.size) (hc : w.cell? ⟨B, 0, none⟩ = some (.map (some b))) (hm : MapAt w b n D) (hn : Maps.size D ≤ 1000000) (hk : ∀ l ∈ strKeys D, l.length ≤ 1000) (hne : strKeys D ≠ []) (hkl : (strKeys D).length ≤ 1000000) :
    Calls Tryz.prog 65 #[seqV B, .func (.func 40) #[] #[]] w fun e w' => ∃ (g cap : Nat) (ts : List (List UInt8)), e = .returned (.slice (some ⟨g, 0, none⟩) ts.length cap) ∧ ts.Perm (strKeys D) ∧ Asc ts ∧ w'.ownsRow w.heap.size 9 1 (.slice (some ⟨g, 0, none⟩) ts.length cap) ts.length (ts.map encStr) ∧ Below w.heap.size w w' := by
  have HA : Hid _ := collect_any B b n D w hB hc hm hn
  have HK : Hid _ := hk
  have HNE : Hid _ := hne
  have HN : Hid ((strKeys D).length ≤ 1000000) := hkl
  clear hB hc hm hn hk hne hkl
  go_enter Tryz.func65, Tryz.ntmps65
  go_wp2_with fail
  refine Calls.mono HA.out ?_
  rintro e w1 ⟨v, ss, rfl, hp, hr, hnil, hb⟩
  have hss : ∀ l ∈ ss, l.length ≤ 1000 := fun l hl => HK.out l (hp.mem_iff.1 hl)
  have hlen : ss.length ≤ 1000000 := by rw [hp.length_eq]; exact HN.out
  rcases hr.2 with ⟨hv, _⟩ | ⟨g, cap, cur, hv, hbase, hb', h1, h2, h3, h4⟩
  · have := hnil.1 hv
    subst this
    exact absurd (List.perm_nil.1 hp.symm) HNE.out
  subst hv
  have hH : Holds encC w1 g 0 ss.toArray := fun j hj => by
    have h := holds_of_block hb' (by simpa using h4) j hj
    have hj' : j < ss.length := by simpa using hj
    have e : ss.toArray[j]! = ss[j] := by simp [hj']
    refine ⟨?_, h.2⟩
    rw [h.1, e]
    show some (encStr ss[j]) = some (encStr (cl ss[j]))
    rw [cl_id (hss _ (List.getElem_mem hj'))]
  have hcon := Any.slices_SortFunc Tryz.sortF encC (fun _ => rfl) cfC swoC 40 #[] g 0 cap ss.toArray w1 (enters_of Tryz.func40 (by kernel_rfl) rfl) (cmpC g 0 ss.toArray.size w1).lays hH (Array.getElem?_eq_some_iff.1 hb').1 (by simp; omega)
  have HCON : Hid (Calls Tryz.prog 76 #[.slice (some ⟨g, 0, none⟩) ss.length cap, .func (.func 40) #[] #[]] w1 fun e w' => e = .returned (.tuple #[]) ∧ ∃ d' n os, PermIn 0 ss.toArray.size ss.toArray d' ∧ SortedIn (ltOf cfC) 0 ss.toArray.size d' ∧ w' = sortWorld encC w1 g 0 n d' os) := hcon
  have HR : Hid (Go.RowKit.Below w.heap.size w w1) := hb
  have HS : Hid _ := hss
  have HP : Hid _ := hp
  have HX : Hid (w.heap.size ≤ g ∧ w1.heap[g]? = some (.cells cur 9 (0, 0)) ∧ ss.length ≤ cap ∧ cap ≤ maxLen ∧ cur.size = cap * 1) := ⟨hbase, hb', h1, h2, h3⟩
  clear hcon hH hr hnil hb hss hp hbase hb' h1 h2 h3 h4 hlen
  go_wp2_with (first | (go_at_call 76; refine Calls.mono HCON.out ?_; rintro e w2 ⟨rfl, d', nn, os, hpm, hso, rfl⟩) | fail)
  obtain ⟨ts, rfl⟩ : ∃ ts : List (List UInt8), d' = ts.toArray := ⟨d'.toList, by simp⟩
  have hl : ts.length = ss.length := by simpa using hpm.1
  have hpp : ts.Perm ss := by
    have := hpm.2.2
    simpa [hl, List.take_of_length_le] using this
  have hts : ∀ l ∈ ts, l.length ≤ 1000 := fun l h => HS.out l (hpp.mem_iff.1 h)
  rw [putC hts]
  go_ret
  refine ⟨g, cap, ts, (by rw [hl] <;> rfl), hpp.trans HP.out, ?_, ?_, HR.out.grown (grownBy_sorted _) HR.out.size (fun j hj => by cases hj; exact HX.out.1)⟩
  · unfold Asc
    rw [List.pairwise_iff_getElem]
    intro i j hi hj hij e
    have hs := hso i j (Nat.zero_le _) hij (by simp; omega)
    have e1 : ts.toArray[j]! = ts[j] := by simp [hj]
    have e2 : ts.toArray[i]! = ts[i] := by simp [hi]
    rw [e1, e2] at hs
    have : ltOf cfC ts[j] ts[i] = true := by
      rw [lt_iff, cl_id (hts _ (List.getElem_mem hj)), cl_id (hts _ (List.getElem_mem hi)), ordL_anti, e]
    rw [this] at hs
    cases hs
  · have := ownsRow_sorted (n := nn) (os := os) hl HX.out.1 HX.out.2.1 HX.out.2.2.1 HX.out.2.2.2.1 HX.out.2.2.2.2
    rw [hl]
    exact this

set_option maxHeartbeats 1000000 in
/-- The places of all nodes, in their order. -/
theorem places_any (b n : Nat) (D : DataW Value) (w : World) (hm : MapAt w b n D) (hn : Maps.size D ≤ 1000000) (hk : ∀ l ∈ strKeys D, l.length ≤ 1000) (hne : strKeys D ≠ []) :
    Calls Tryz.prog 36 #[.map (some b)] w fun e w' => ∃ (g cap : Nat) (ts : List (List UInt8)), e = .returned (.slice (some ⟨g, 0, none⟩) ts.length cap) ∧ ts.Perm (strKeys D) ∧ Asc ts ∧ w'.ownsRow w.heap.size 9 1 (.slice (some ⟨g, 0, none⟩) ts.length cap) ts.length (ts.map encStr) ∧ Go.RowKit.Below w.heap.size w w' := by
  have HS : Hid _ := sorted_any w.heap.size b n D (w.alloc (.cells #[.map (some b)] 73)) (by simp) (by simp) (map_below hm ((Go.RowKit.Below.refl _ _).alloc (Nat.le_refl _) _)) hn hk hne (by rw [size_of]; exact hn)
  clear hm hn hk hne
  go_enter Tryz.func36, Tryz.ntmps36
  go_wp2_with (first
    | (go_at_call 66; refine (keys_any _ _).mono ?_; rintro e w1 ⟨rfl, rfl⟩)
    | (go_at_call 65; refine Calls.mono HS.out ?_; rintro e w2 ⟨g, cap, ts, rfl, h1, h2, h3, h4⟩)
    | fail)
  go_ret
  exact ⟨g, cap, ts, rfl, h1, h2, ⟨h3.1, h3.2.imp id (fun ⟨g', c', cur, a, b, c⟩ => ⟨g', c', cur, a, by simp at b; omega, c⟩)⟩, trans2 ((Go.RowKit.Below.refl _ _).alloc (Nat.le_refl _) _) h4⟩
end Go.Proofs.YtliafokjdngejaaGreatDoor
namespace Go.Proofs.YtliafokjdngejaaGreatDoor
open Go.RowKit Go.Maps Go.Sort
set_option linter.unusedVariables false

theorem Tryz.infoF : (Tryz.prog.info? 54).map (fun i => (i.zero, i.size, i.bytes)) = some (some zf, 7, 72) := by kernel_rfl

/-- The cells of the nodes at places. -/
def nodeCs (D : DataW Value) (ts : List (List UInt8)) : List Value := (ts.map fun l => cellsOf (look D ⟨l.toArray⟩)).flatten
theorem nodeCs_snoc (D : DataW Value) (ts : List (List UInt8)) (l : List UInt8) {p d : ByteArray} {v m c o k : Int} (h : look D ⟨l.toArray⟩ = fuV p d v m c o k) : nodeCs D (ts ++ [l]) = nodeCs D ts ++ [.string p, .string d, .int .i64 v, .int .i64 m, .int .i64 c, .int .i64 o, .int .i64 k] := by
  simp [nodeCs, h, cellsOf]

set_option maxHeartbeats 16000000 in
set_option maxRecDepth 100000 in
theorem nodes_any (base tb mb n : Nat) (D : DataW Value) (w : World) (hT : TreeAt w base tb mb n D) (hn : Maps.size D ≤ 1000) (hwf : WF D) (hne : strKeys D ≠ []) :
    Calls Tryz.prog 16 #[.pointer (some ⟨tb, 0, none⟩)] w fun e w' => ∃ (g cap : Nat) (ts : List (List UInt8)), e = .returned (.slice (some ⟨g, 0, none⟩) ts.length cap) ∧ ts.Perm (strKeys D) ∧ Asc ts ∧ w'.ownsRow w.heap.size 54 7 (.slice (some ⟨g, 0, none⟩) ts.length cap) ts.length (nodeCs D ts) ∧ Below w.heap.size w w' := by
  obtain ⟨i0, hi0, hz0, hz1, hz2⟩ := info_parts Tryz.infoF
  have HT : Hid _ := hT
  have HW : Hid _ := hwf
  have HNO : Hid _ := isNone_at tb (some mb) w (cells_1 hT.box)
  have HPL : Hid _ := places_any mb n D w hT.map (by omega) (fun l hl => (hwf l hl).1) hne
  have HSZ : Hid ((strKeys D).length ≤ 1000) := by rw [size_of]; exact hn
  have HNE : Hid _ := hne
  have hbx := cells_1 hT.box
  have htl : tb < w.heap.size := (Array.getElem?_eq_some_iff.1 hT.box).1
  clear hT hwf hn hne
  go_enter Tryz.func16, Tryz.ntmps16
  go_wp2_with (first
    | (go_at_call 35; refine Calls.mono HNO.out ?_; rintro e w0 ⟨rfl, rfl⟩)
    | (go_at_call 36; refine Calls.mono HPL.out ?_; rintro e w1 ⟨g, cap, ts, rfl, hp, has, hr, hb⟩
       have HP : Hid _ := hp
       have HA : Hid _ := has
       have HR : Hid (w1.ownsRow w0.heap.size 9 1 (.slice (some ⟨g, 0, none⟩) ts.length cap) ts.length (ts.map encStr)) := hr
       have HB : Hid (Below w0.heap.size w0 w1) := hb
       clear hp has hr hb hbx)
    | fail)
  have htl1 : tb < w1.heap.size := Nat.lt_of_lt_of_le htl HB.out.size
  have HT1 : Hid _ := HT.out.below HB.out
  have hlen : ts.length ≤ 1000 := by rw [HP.out.length_eq]; exact HSZ.out
  have hgl : g < w1.heap.size := (HR.out.lt g rfl).2
  go_loopw [3, 14] (fun a i wr => ∃ q : Nat, i = .int .i64 q ∧ q ≤ ts.length ∧ Hid (wr.ownsRow w1.heap.size 54 7 a q (nodeCs D (ts.take q)) ∧ (a = .slice none 0 0 ↔ q = 0)) ∧ Hid (Below w1.heap.size w1 wr)) (fun _ i _ => ts.length - (intOf i).toNat)
  case atStart => exact ⟨0, rfl, Nat.zero_le _, ⟨World.ownsRow_nil _ _ _ _, by simp⟩, Below.refl _ _⟩
  case round =>
    obtain ⟨q, rfl, hq, HO, HBk⟩ := hrel
    by_cases hlt : q < ts.length
    · obtain ⟨l, hl⟩ : ∃ l, ts[q]? = some l := ⟨ts[q], List.getElem?_eq_getElem hlt⟩
      obtain ⟨hll, p, d, v, m, c, o, k, hlk, hps, hds⟩ := HW.out l (HP.out.mem_iff.1 (List.mem_of_getElem? hl))
      have hcq : wr.cell? ⟨g, q, none⟩ = some (.string ⟨l.toArray⟩) := by
        rw [HBk.out.cell (p := ⟨g, q, none⟩) hgl, HR.out.cellAt q (by omega), List.getElem?_map, hl]
        rfl
      have hcb : wr.cell? ⟨tb, 0, none⟩ = some (.map (some mb)) := cells_1 (HT1.out.below HBk.out).box
      have HMk : Hid _ := (HT1.out.below HBk.out).map
      have hkey : keyOf Tryz.prog 9 (.string ⟨l.toArray⟩) = some (ky ⟨l.toArray⟩) := WideMaps.keyOf_string_mk Tryz.underlying9 (by show l.toArray.size ≤ maxLen; unfold maxLen; simp; omega)
      have HLK : Hid _ := hlk
      have HCP : Hid _ := copied_any p d v m c o k (by omega) (by omega)
      have htk : ts.take (q + 1) = ts.take q ++ [l] := by rw [List.take_add_one, hl]; rfl
      have HTK : Hid (nodeCs D (ts.take (q + 1)) = nodeCs D (ts.take q) ++ [.string p, .string d, .int .i64 v, .int .i64 m, .int .i64 c, .int .i64 o, .int .i64 k]) := by rw [htk]; exact nodeCs_snoc D _ l hlk
      have hlt' : (q : Int) < (ts.length : Int) := by omega
      clear hl hlk htk hll
      go_wp2_with (first
        | (at_lookup; refine wpList_lookup_raw _ rfl _ _ 73 rfl 9 54 keyed Tryz.underlying73 (zeroF _) mb n D rfl HMk.out _ _ rfl hkey ?_; intro u ps hu; obtain rfl := look_of hu; rw [HLK.out]; clear hu)
        | (go_at_call 38; refine (HCP.out _).mono ?_; rintro e w3 ⟨rfl, hb3⟩
           have HB3 : Hid (Below w1.heap.size w1 w3) := trans2 HBk.out hb3
           have HO3 : Hid (w3.ownsRow w1.heap.size 54 7 u3 q (nodeCs D (ts.take q))) := owns_chg HO.out.1 (Chg.of_below hb3 (fun _ => False)) (fun _ _ => id)
           have hs3 := HB3.out.size
           clear hb3)
        | (at_builtin; refine wpList_append_lies _ rfl _ _ _ rfl w1.heap.size 54 i0 _ 7 72 Tryz.underlying48 hi0 hz0 hz1 hz2 rfl (by omega) u3 q (nodeCs D (ts.take q)) rfl (World.ownsRow.alloc HO3.out _) ⟨w3.heap.size, 0, none⟩ 1 1 [.string p, .string d, .int .i64 v, .int .i64 m, .int .i64 c, .int .i64 o, .int .i64 k] rfl rfl (World.news_of_block (cs := #[.string p, .string d, .int .i64 v, .int .i64 m, .int .i64 c, .int .i64 o, .int .i64 k]) (t := 54) (fr := (0, 0)) (heap_alloc_new w3 _)) (by simp [Value.oneCell']) (by omega) (by unfold maxLen; omega) (by omega) (by simp; omega) (w3.heap.size + 1) (by simp) ?_
           intro g4 cap4 w4 hown4 hgrow4 hat4 hlt4
           have HN4 : Hid (w4.ownsRow w1.heap.size 54 7 (.slice (some ⟨g4, 0, none⟩) (q + 1) cap4) (q + 1) (nodeCs D (ts.take (q + 1)))) := by rw [HTK.out]; exact hown4
           have HB4 : Hid (Below w1.heap.size w1 w4) := HB3.out.trans (((Below.refl _ _).alloc (by omega) _).grown hgrow4 (by simp; omega) (fun j hj => (HO3.out.lt j hj).1))
           clear hown4 hgrow4 hat4 hlt4)
        | fail)
      go_roundw
      case rel => exact ⟨q + 1, by go_num, by omega, ⟨HN4.out, by simp⟩, HB4.out⟩
      case measure => simp [intOf]; omega
    · obtain rfl : q = ts.length := by omega
      go_wp2
      go_ret
      have hq0 : ts.length ≠ 0 := fun e => HNE.out (by have := HP.out.length_eq; rw [e] at this; exact List.eq_nil_of_length_eq_zero this.symm)
      have hO := HO.out.1
      rw [List.take_of_length_le (Nat.le_refl _)] at hO
      rcases hO.2 with ⟨hv, h0⟩ | ⟨g5, cap5, cur5, hv, hbs, r5⟩
      · exact absurd h0 hq0
      subst hv
      exact ⟨g5, cap5, ts, rfl, HP.out, HA.out, ⟨hO.1, .inr ⟨g5, cap5, cur5, rfl, Nat.le_trans HB.out.size hbs, r5⟩⟩, trans2 HB.out HBk.out⟩
end Go.Proofs.YtliafokjdngejaaGreatDoor
