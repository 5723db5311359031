/-
  tree: Nodes.
-/
import Derived.Test.YtfjklpgnlkgfoaaGreatDoorTPlaces
import Derived.Test.YtfjklpgnlkgfoaaGreatDoorTPlay1
import Derived.Test.YtfjklpgnlkgfoaaGreatDoorTMake
import Derived.Deep.AppendLies
import Derived.Maps.OwnOps
namespace Go.Proofs.YtfjklpgnlkgfoaaGreatDoor
open Go.RowKit Go.Maps Go.Sort
set_option linter.unusedVariables false

theorem wpList_lookup_raw {P : Program} (w : World) {ops : Array Oper} {rest : List Oper} {o : Oper} {a : Act} {Q : Exit → Act → World → Prop} (hg : o.guard = none) (m x : Operand) (t : TypeId) (hop : o.op = Op.lookup t m x false)
    (k e : TypeId) (K : Keyed P k) (ht : P.underlying t = some (.map k e)) {z : Value} (hz : (zeroValue e).run P w = .ok z w) (b n : Nat) (D : DataW Value)
    (hm : a.eval m = .map (some b)) (hown : w.ownsMap P k raw b n D) (key : Value) (kl : Lit) (hx : a.eval x = key) (hkey : keyOf P k key = some kl)
    (hK : ∀ v ps, raw v = some (D.atKey kl (.held z), ps) → wpList P ops Q rest (a.put o.dst v) w) :
    wpList P ops Q (o :: rest) a w := by
  refine wpList_plain hg fun K' hK' => ?_
  obtain ⟨v, ps, hrun, hv⟩ := hown.lookup K ht hz (zd := .held z) (zp := []) rfl hkey
  unfold Oper.wp
  simp [execOp, hop, hm, hx, hrun, Result.andThen]
  exact hK' _ _ (hK v ps hv)

theorem Tryz.infoF : (Tryz.prog.info? 79).map (fun i => (i.zero, i.size, i.bytes)) = some (some zf, 7, 72) := by kernel_rfl

def cellsOf : Value → List Value
  | .agg xs => xs.toList
  | _ => []
/-- The cells of the nodes at places. -/
def nodeCs (D : DataW Value) (ts : List (List UInt8)) : List Value := (ts.map fun l => cellsOf (look D ⟨l.toArray⟩)).flatten
/-- All that a map has are nodes, at texts that are not too long. -/
def WF (D : DataW Value) : Prop := ∀ l ∈ strKeys D, l.length ≤ 1000 ∧ ∃ p d v m c o k, look D ⟨l.toArray⟩ = fuV p d v m c o k ∧ p.size ≤ 1000 ∧ d.size ≤ 1000

theorem nodeCs_snoc (D : DataW Value) (ts : List (List UInt8)) (l : List UInt8) {p d : ByteArray} {v m c o k : Int} (h : look D ⟨l.toArray⟩ = fuV p d v m c o k) : nodeCs D (ts ++ [l]) = nodeCs D ts ++ [.string p, .string d, .int .i64 v, .int .i64 m, .int .i64 c, .int .i64 o, .int .i64 k] := by
  simp [nodeCs, h, cellsOf]

set_option maxHeartbeats 16000000 in
set_option maxRecDepth 100000 in
theorem nodes_any (base tb mb n : Nat) (D : DataW Value) (w : World) (hT : TreeAt w base tb mb n D) (hn : Maps.size D ≤ 1000) (hwf : WF D) (hne : strKeys D ≠ []) :
    Calls Tryz.prog 18 #[.pointer (some ⟨tb, 0, none⟩)] w fun e w' => ∃ (g cap : Nat) (ts : List (List UInt8)), e = .returned (.slice (some ⟨g, 0, none⟩) ts.length cap) ∧ ts.Perm (strKeys D) ∧ Asc ts ∧ w'.ownsRow w.heap.size 79 7 (.slice (some ⟨g, 0, none⟩) ts.length cap) ts.length (nodeCs D ts) ∧ Below w.heap.size w w' := by
  obtain ⟨i0, hi0, hz0, hz1, hz2⟩ := info_parts Tryz.infoF
  have HT : Hid _ := hT
  have HW : Hid _ := hwf
  have HNO : Hid _ := isNone_at tb (some mb) w (cells_1 hT.box)
  have HPL : Hid _ := places_any mb n D w hT.map (by omega) (fun l hl => (hwf l hl).1) hne
  have HSZ : Hid ((strKeys D).length ≤ 1000) := by rw [size_of]; exact hn
  have HNE : Hid _ := hne
  have hbx := cells_1 hT.box
  have htl : tb < w.heap.size := (Array.getElem?_eq_some_iff.1 hT.box).1
  clear hT hwf hn hne
  go_enter Tryz.func18, Tryz.ntmps18
  go_wp2_with (first
    | (go_at_call 29; refine Calls.mono HNO.out ?_; rintro e w0 ⟨rfl, rfl⟩)
    | (go_at_call 30; refine Calls.mono HPL.out ?_; rintro e w1 ⟨g, cap, ts, rfl, hp, has, hr, hb⟩
       have HP : Hid _ := hp
       have HA : Hid _ := has
       have HR : Hid (w1.ownsRow w0.heap.size 9 1 (.slice (some ⟨g, 0, none⟩) ts.length cap) ts.length (ts.map encStr)) := hr
       have HB : Hid (Below w0.heap.size w0 w1) := hb
       clear hp has hr hb hbx)
    | fail)
  have htl1 : tb < w1.heap.size := Nat.lt_of_lt_of_le htl HB.out.size
  have HT1 : Hid _ := HT.out.below HB.out
  have hlen : ts.length ≤ 1000 := by rw [HP.out.length_eq]; exact HSZ.out
  have hgl : g < w1.heap.size := (HR.out.lt g rfl).2
  go_loopw [3, 14] (fun a i wr => ∃ q : Nat, i = .int .i64 q ∧ q ≤ ts.length ∧ Hid (wr.ownsRow w1.heap.size 79 7 a q (nodeCs D (ts.take q)) ∧ (a = .slice none 0 0 ↔ q = 0)) ∧ Hid (Below w1.heap.size w1 wr)) (fun _ i _ => ts.length - (intOf i).toNat)
  case atStart => exact ⟨0, rfl, Nat.zero_le _, ⟨World.ownsRow_nil _ _ _ _, by simp⟩, Below.refl _ _⟩
  case round =>
    obtain ⟨q, rfl, hq, HO, HBk⟩ := hrel
    by_cases hlt : q < ts.length
    · obtain ⟨l, hl⟩ : ∃ l, ts[q]? = some l := ⟨ts[q], List.getElem?_eq_getElem hlt⟩
      obtain ⟨hll, p, d, v, m, c, o, k, hlk, hps, hds⟩ := HW.out l (HP.out.mem_iff.1 (List.mem_of_getElem? hl))
      have hcq : wr.cell? ⟨g, q, none⟩ = some (.string ⟨l.toArray⟩) := by
        rw [HBk.out.cell (p := ⟨g, q, none⟩) hgl, HR.out.cellAt q (by omega), List.getElem?_map, hl]
        rfl
      have hcb : wr.cell? ⟨tb, 0, none⟩ = some (.map (some mb)) := cells_1 (HT1.out.below HBk.out).box
      have HMk : Hid _ := (HT1.out.below HBk.out).map
      have hkey : keyOf Tryz.prog 9 (.string ⟨l.toArray⟩) = some (ky ⟨l.toArray⟩) := WideMaps.keyOf_string_mk Tryz.underlying9 (by show l.toArray.size ≤ maxLen; unfold maxLen; simp; omega)
      have HLK : Hid _ := hlk
      have HCP : Hid _ := copied_any p d v m c o k (by omega) (by omega)
      have htk : ts.take (q + 1) = ts.take q ++ [l] := by rw [List.take_add_one, hl]; rfl
      have HTK : Hid (nodeCs D (ts.take (q + 1)) = nodeCs D (ts.take q) ++ [.string p, .string d, .int .i64 v, .int .i64 m, .int .i64 c, .int .i64 o, .int .i64 k]) := by rw [htk]; exact nodeCs_snoc D _ l hlk
      have hlt' : (q : Int) < (ts.length : Int) := by omega
      clear hl hlk htk hll
      go_wp2_with (first
        | (at_lookup; refine wpList_lookup_raw _ rfl _ _ 25 rfl 9 79 keyed Tryz.underlying25 (zeroF _) mb n D rfl HMk.out _ _ rfl hkey ?_; intro u ps hu; obtain rfl := look_of hu; rw [HLK.out]; clear hu)
        | (go_at_call 39; refine (HCP.out _).mono ?_; rintro e w3 ⟨rfl, hb3⟩
           have HB3 : Hid (Below w1.heap.size w1 w3) := trans2 HBk.out hb3
           have HO3 : Hid (w3.ownsRow w1.heap.size 79 7 u3 q (nodeCs D (ts.take q))) := owns_chg HO.out.1 (Chg.of_below hb3 (fun _ => False)) (fun _ _ => id)
           have hs3 := HB3.out.size
           clear hb3)
        | (at_builtin; refine wpList_append_lies _ rfl _ _ _ rfl w1.heap.size 79 i0 _ 7 72 Tryz.underlying66 hi0 hz0 hz1 hz2 rfl (by omega) u3 q (nodeCs D (ts.take q)) rfl (World.ownsRow.alloc HO3.out _) ⟨w3.heap.size, 0, none⟩ 1 1 [.string p, .string d, .int .i64 v, .int .i64 m, .int .i64 c, .int .i64 o, .int .i64 k] rfl rfl (World.news_of_block (cs := #[.string p, .string d, .int .i64 v, .int .i64 m, .int .i64 c, .int .i64 o, .int .i64 k]) (t := 79) (fr := (0, 0)) (heap_alloc_new w3 _)) (by simp [Value.oneCell']) (by omega) (by unfold maxLen; omega) (by omega) (by simp; omega) (w3.heap.size + 1) (by simp) ?_
           intro g4 cap4 w4 hown4 hgrow4 hat4 hlt4
           have HN4 : Hid (w4.ownsRow w1.heap.size 79 7 (.slice (some ⟨g4, 0, none⟩) (q + 1) cap4) (q + 1) (nodeCs D (ts.take (q + 1)))) := by rw [HTK.out]; exact hown4
           have HB4 : Hid (Below w1.heap.size w1 w4) := HB3.out.trans (((Below.refl _ _).alloc (by omega) _).grown hgrow4 (by simp; omega) (fun j hj => (HO3.out.lt j hj).1))
           clear hown4 hgrow4 hat4 hlt4)
        | fail)
      go_roundw
      case rel => exact ⟨q + 1, by go_num, by omega, ⟨HN4.out, by simp⟩, HB4.out⟩
      case measure => simp [intOf]; omega
    · obtain rfl : q = ts.length := by omega
      go_wp2
      go_ret
      have hq0 : ts.length ≠ 0 := fun e => HNE.out (by have := HP.out.length_eq; rw [e] at this; exact List.eq_nil_of_length_eq_zero this.symm)
      have hO := HO.out.1
      rw [List.take_of_length_le (Nat.le_refl _)] at hO
      rcases hO.2 with ⟨hv, h0⟩ | ⟨g5, cap5, cur5, hv, hbs, r5⟩
      · exact absurd h0 hq0
      subst hv
      exact ⟨g5, cap5, ts, rfl, HP.out, HA.out, ⟨hO.1, .inr ⟨g5, cap5, cur5, rfl, Nat.le_trans HB.out.size hbs, r5⟩⟩, trans2 HB.out HBk.out⟩
end Go.Proofs.YtfjklpgnlkgfoaaGreatDoor
