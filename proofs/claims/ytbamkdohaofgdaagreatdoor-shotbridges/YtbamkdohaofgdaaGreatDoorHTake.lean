import Derived.Test.YtbamkdohaofgdaaGreatDoorTBase
import Derived.Test.YtbamkdohaofgdaaGreatDoorCovers
import Derived.Test.YtbamkdohaofgdaaGreatDoorLine
import Derived.Sort.KeysCollected
import Derived.Maps.RangeWalk
import Derived.WalkSpells
import Derived.Sort.OwnSorted
import Derived.Test.YtbamkdohaofgdaaGreatDoorTNode
import Derived.Deep.RegionHeld3
import Derived.Test.YtbamkdohaofgdaaGreatDoorTPlay1
import Derived.Test.YtbamkdohaofgdaaGreatDoorTMake
import Derived.Deep.AppendLies
import Derived.Maps.OwnOps
import Derived.Test.YtbamkdohaofgdaaGreatDoorShelfG
import Derived.Shelf.SlSortCmp.Whole1
import Derived.Test.YtbamkdohaofgdaaGreatDoorSTurned
import Derived.Test.YtbamkdohaofgdaaGreatDoorCSmall
import Derived.Test.YtbamkdohaofgdaaGreatDoorCMay
namespace Go.Proofs.YtbamkdohaofgdaaGreatDoor.T
open Go.RowKit Go.Maps
set_option linter.unusedVariables false
set_option linter.unusedSimpArgs false

theorem Tryz.infoT : (Tryz.prog.info? 9).map (fun i => (i.zero, i.size, i.bytes)) = some (some (.string ⟨#[]⟩), 1, 16) := by kernel_rfl
abbrev ordV : Value := .func (.func 33) #[] #[]
/-- What a sort of places does. -/
def SortsTo : Prop := ∀ (base g cap : Nat) (ss : List (List UInt8)) (w : World), w.ownsRow base 9 1 (.slice (some ⟨g, 0, none⟩) ss.length cap) ss.length (ss.map encStr) → (∀ l ∈ ss, l.length ≤ 1000) → ss.length ≤ 1000000 →
  Calls Tryz.prog 84 #[.slice (some ⟨g, 0, none⟩) ss.length cap, ordV] w fun e w' => e = .returned (.tuple #[]) ∧ ∃ ts : List (List UInt8), ts.Perm ss ∧ ts.Pairwise (fun x y => ordL x y ≠ 1) ∧ w'.ownsRow base 9 1 (.slice (some ⟨g, 0, none⟩) ts.length cap) ts.length (ts.map encStr) ∧ w.grownBy w' (some g)
def SortsNil : Prop := ∀ w : World, Calls Tryz.prog 84 #[.slice none 0 0, ordV] w fun e w' => e = .returned (.tuple #[]) ∧ Below w.heap.size w w'
theorem grown_of_below {w w' : World} (h : Below w.heap.size w w') (row : Option Nat) : w.grownBy w' row := ⟨h.os, h.tape, h.output, h.size, fun k hk _ => h.block k hk⟩
def wF (kind : Int) (at' : ByteArray) (l : List UInt8) : Bool := covers kind at' 1 ⟨l.toArray⟩
set_option maxHeartbeats 4000000 in
set_option maxRecDepth 100000 in
theorem watched_any (hS : SortsTo) (hN : SortsNil) (b n : Nat) (D : DataW Value) (kind : Int) (at' : ByteArray) (w : World) (hg : Ground w) (hm : MapAt w b n D) (hk : ∀ l ∈ strKeys D, l.length ≤ 1000) (hsz : Maps.size D ≤ 1000000) :
    Calls Tryz.prog 54 #[.map (some b), .int .i64 kind, .string at'] w fun e w' => ∃ (a : Option Addr) (c : Nat) (ts : List (List UInt8)), e = .returned (.slice a ts.length c) ∧ ts.Perm ((strKeys D).filter (wF kind at')) ∧ ts.Pairwise (fun x y => ordL x y ≠ 1) ∧ w'.ownsRow w.heap.size 9 1 (.slice a ts.length c) ts.length (ts.map encStr) ∧ Below w.heap.size w w' := by
  obtain ⟨i0, hi, hz0, hz1, hz2⟩ := info_parts Tryz.infoT
  have hbl := hm.lt
  have HG : Hid (Ground w) := hg
  have HM : Hid (MapAt w b n D) := hm
  have HK : Hid (∀ l ∈ strKeys D, l.length ≤ 1000) := hk
  clear hg hk
  go_enter Tryz.func54, Tryz.ntmps54
  go_wp2_with (first
    | (at_range; go_loud (refine wpList_range_own _ rfl _ 65 rfl 9 63 keyed Tryz.underlying65 raw b n D rfl hm ?_; intro w0 hrg0 hg0 hs0))
    | fail)
  go_frame
  go_loopw [7] (fun v wr => ∃ (left : Lit → Bool) (cnt : Nat) (all : List (List UInt8)), wr.ranges Tryz.prog 9 raw b w.heap.size n D left cnt ∧ all.length + cnt ≤ Maps.size D ∧ Hid (wr.ownsRow w.heap.size 9 1 v (all.filter (wF kind at')).length ((all.filter (wF kind at')).map encStr)) ∧ Collected D left all ∧ Hid (Below w.heap.size w wr)) (fun _ wr => wr.rangeLeft b w.heap.size)
  case atStart => exact ⟨_, _, [], hrg0, by simp, World.ownsRow_nil _ _ _ _, Collected.start D, (Below.refl _ _).grown hg0 (Nat.le_refl _) (fun j hj => by cases hj)⟩
  case round =>
    obtain ⟨left, cnt, all, hrg, hcs, HR, hC, HB⟩ := hrel
    go_wp2_with (first
      | (at_next; go_loud (refine wpList_next_ranges _ rfl _ rfl 9 keyed raw encStr id (fun key kl hk => by obtain ⟨x, hx, _⟩ := Maps.keyOf_str Tryz.underlying9 hk; exact ⟨x, hx⟩) (fun v y hv => ⟨v, rfl⟩) b w.heap.size n _ _ _ rfl hrg ?_ ?_))
      | fail)
    · intro hc0 hl0
      have HP : Hid (all.Perm (strKeys D)) := hC.perm HM.out keyed Tryz.underlying9 hl0
      have HPF : Hid ((all.filter (wF kind at')).Perm ((strKeys D).filter (wF kind at'))) := HP.out.filter _
      have HSS : Hid (∀ l ∈ all.filter (wF kind at'), l.length ≤ 1000) := fun l hl => HK.out l (HP.out.mem_iff.1 (List.mem_filter.1 hl).1)
      have HLn : Hid ((all.filter (wF kind at')).length ≤ 1000000) := Nat.le_trans (List.length_filter_le _ _) (by omega)
      clear hrg hC hc0 hl0 hcs
      obtain ⟨ss, hss⟩ : ∃ ss, all.filter (wF kind at') = ss := ⟨_, rfl⟩
      rw [hss] at HR HPF HSS HLn
      clear hss
      rcases HR.out.2 with ⟨hv, hl⟩ | ⟨g, cap, cur, hv, hbase, hb, h1, h2, h3, h4⟩
      · have hs0 : ss = [] := List.eq_nil_of_length_eq_zero hl
        subst hs0
        subst hv
        go_wp2_with fail
        refine (hN _).mono ?_
        rintro e w5 ⟨rfl, hb5⟩
        have HB5 : Hid (Below w.heap.size w w5) := trans2 HB.out hb5
        clear hb5
        go_wp2_with fail
        go_ret
        exact ⟨none, 0, [], rfl, HPF.out, List.Pairwise.nil, World.ownsRow_nil _ _ _ _, HB5.out⟩
      · subst hv
        have HCON : Hid _ := hS w.heap.size g cap ss wr HR.out HSS.out HLn.out
        have HBa : Hid (w.heap.size ≤ g) := hbase
        clear hb h1 h2 h3 h4 hbase
        go_wp2_with fail
        refine Calls.mono HCON.out ?_
        rintro e w5 ⟨rfl, ts, hp5, hs5, ho5, hg5⟩
        have HB5 : Hid (Below w.heap.size w w5) := HB.out.grown hg5 HB.out.size (fun j hj => by cases hj; exact HBa.out)
        have HO5 : Hid _ := ho5
        have HP5 : Hid _ := hp5
        have HS5 : Hid _ := hs5
        clear hp5 hs5 ho5 hg5
        go_wp2_with fail
        go_ret
        exact ⟨_, cap, ts, by rw [HP5.out.length_eq]; rfl, HP5.out.trans HPF.out, HS5.out, HO5.out, HB5.out⟩
    · intro x c kl yd yp w2 cnt2 hkey hlk hv hat hrg2 hlt hg2 hs2 hen
      obtain ⟨x', ex, rfl, _⟩ := Maps.keyOf_str Tryz.underlying9 hkey
      obtain rfl : x = x' := encStr_inj ex
      have HR2 : Hid (w2.ownsRow w.heap.size 9 1 u7 (all.filter (wF kind at')).length ((all.filter (wF kind at')).map encStr)) := HR.out.kept hg2 (Or.inr (row_ne_iter HR.out hrg).symm)
      have HB2 : Hid (Below w.heap.size w w2) := HB.out.grown hg2 HB.out.size (fun j hj => by cases hj; exact Nat.le_refl _)
      have HCV : Hid _ := covers_any kind 1 at' ⟨x.toArray⟩ w2 (HG.out.below HB2.out)
      clear hs2
      obtain ⟨f, hf⟩ : ∃ f, wF kind at' x = f := ⟨_, rfl⟩
      have hf' : covers kind at' 1 ⟨x.toArray⟩ = f := hf
      rw [hf'] at HCV
      cases f with
      | false =>
        have HF : Hid ((all ++ [x]).filter (wF kind at') = all.filter (wF kind at')) := by show _ = _; rw [List.filter_append]; simp [hf]
        go_wp2_with fail
        refine Calls.mono HCV.out ?_
        rintro e w3 ⟨rfl, hb3⟩
        have hrg3 := hrg2.kept (grown_of_below hb3 none) (by simp) (by simp)
        have HR3 : Hid (w3.ownsRow w.heap.size 9 1 u7 (all.filter (wF kind at')).length ((all.filter (wF kind at')).map encStr)) := World.ownsRow.kept HR2.out (grown_of_below hb3 none) (by cases u7.ownBlock <;> simp)
        have HB3 : Hid (Below w.heap.size w w3) := trans2 HB2.out hb3
        clear hb3
        go_wp2_with fail
        go_roundw
        case rel => exact ⟨_, cnt2, all ++ [x], hrg3, by simp; omega, by show World.ownsRow _ _ _ _ _ _ _; rw [HF.out]; exact HR3.out, hC.step hlk hat, HB3⟩
        case measure => rw [hrg3.left_eq, hrg.left_eq]; exact hlt
      | true =>
        have HF : Hid ((all ++ [x]).filter (wF kind at') = all.filter (wF kind at') ++ [x]) := by show _ = _; rw [List.filter_append]; simp [hf]
        have HFL : Hid ((all.filter (wF kind at')).length ≤ 1000000) := Nat.le_trans (List.length_filter_le _ _) (by omega)
        go_wp2_with fail
        refine Calls.mono HCV.out ?_
        rintro e w3 ⟨rfl, hb3⟩
        have hrg3 := hrg2.kept (grown_of_below hb3 none) (by simp) (by simp)
        have HR3 : Hid (w3.ownsRow w.heap.size 9 1 u7 (all.filter (wF kind at')).length ((all.filter (wF kind at')).map encStr)) := World.ownsRow.kept HR2.out (grown_of_below hb3 none) (by cases u7.ownBlock <;> simp)
        have HB3 : Hid (Below w.heap.size w w3) := trans2 HB2.out hb3
        clear hb3
        go_wp2_with (first
          | (at_builtin; refine wpList_append_own _ rfl _ _ 73 rfl w.heap.size 9 i0 (.string ⟨#[]⟩) 1 16 Tryz.underlying73 hi hz0 hz1 hz2 rfl (by decide) _ _ _ rfl (World.ownsRow.alloc HR3.out _) ⟨w3.heap.size, 0, none⟩ 1 1 [encStr x] rfl rfl (cell_one_new _ _ _) (by simp [Value.oneCell', encStr]) (by have := HFL.out; unfold maxLen; omega) (by have := HFL.out; omega) (by have := HB3.out.size; simp; omega) ?_; intro v' w4 hown4 hg4 hnil4; go_frame)
          | fail)
        have hrg4 := (hrg3.alloc _).kept hg4 (row_ne_low HR3.out hbl) (row_ne_iter HR3.out hrg3)
        go_roundw
        case rel =>
          refine ⟨_, cnt2, all ++ [x], hrg4, by simp; omega, ?_, hC.step hlk hat, ?_⟩
          · show World.ownsRow _ _ _ _ _ _ _
            rw [HF.out]
            simpa using hown4
          · exact (HB3.out.alloc HB3.out.size _).grown hg4 (by have := HB3.out.size; simp; omega) (fun j hj => (HR3.out.lt j hj).1)
        case measure => rw [hrg4.left_eq, hrg.left_eq]; exact hlt
end Go.Proofs.YtbamkdohaofgdaaGreatDoor.T
namespace Go.Proofs.YtbamkdohaofgdaaGreatDoor.T
open Go.RowKit Go.Maps
set_option linter.unusedVariables false
set_option linter.unusedSimpArgs false

theorem tcells_3 {W : World} {b : Nat} {t : TypeId} {x0 x1 x2 : Value} (h : W.heap[b]? = some (.cells #[x0, x1, x2] t (0, 0))) : W.cell? ⟨b, 0, none⟩ = some x0 ∧ W.cell? ⟨b, 1, none⟩ = some x1 ∧ W.cell? ⟨b, 2, none⟩ = some x2 := by
  simp [World.cell?, h]
theorem tfree_3 {W : World} {b : Nat} {t : TypeId} {x0 x1 x2 : Value} (h : W.heap[b]? = some (.cells #[x0, x1, x2] t (0, 0))) (o : Nat) : W.frozen? ⟨b, o, none⟩ = false := by
  simp [World.frozen?, h]

set_option maxHeartbeats 3200000 in
set_option maxRecDepth 100000 in
theorem fullSeen_kids (p d : ByteArray) (v m c o k : Int) (hp : p.size ≤ 281474976710656) (w : World) :
    Calls Tryz.prog 55 #[fuV p d v m c o k, .int .i64 2] w fun e w' => e = .returned (.agg #[.string p, .string ⟨#[]⟩, .int .i64 0]) ∧ Below w.heap.size w w' := by
  have HP : Hid _ := sclone_any p hp
  clear hp
  go_enter Tryz.func55, Tryz.ntmps55
  go_wp2_with fail
  refine (HP.out _).mono ?_
  rintro e w1 ⟨rfl, hb1⟩
  have HB1 : Hid (Below w.heap.size w w1) := trans2 (((Below.refl _ _).alloc (Nat.le_refl _) _).alloc (by simp) _) ⟨hb1.os, hb1.tape, hb1.output, hb1.size, hb1.block⟩
  have HY1 : Hid (w1.heap[w.heap.size + 1]? = some (.cells #[.string ⟨#[]⟩, .string ⟨#[]⟩, .int .i64 0] 52 (0, 0))) := kept_block hb1 (heap_alloc2_new _ _ _)
  obtain ⟨b0, b1, b2⟩ := tcells_3 HY1.out
  have hg := tfree_3 HY1.out
  clear hb1
  go_wp2_with fail
  exact bodyPost_ret (results_cell_row rfl _ _ (w.heap.size + 1) 52 _ (0, 0) _ rfl (fill_3 HY1.out) Tryz.underlying52 rfl (by kernel_rfl)) rfl ⟨rfl, fillB_3 HB1.out (by omega)⟩

set_option maxHeartbeats 3200000 in
set_option maxRecDepth 100000 in
theorem fullSeen_whole (p d : ByteArray) (v m c o k q : Int) (hq : q ≠ 2) (hp : p.size ≤ 281474976710656) (hd : d.size ≤ 281474976710656) (w : World) :
    Calls Tryz.prog 55 #[fuV p d v m c o k, .int .i64 q] w fun e w' => e = .returned (.agg #[.string p, .string d, .int .i64 v]) ∧ Below w.heap.size w w' := by
  have HP : Hid _ := sclone_any p hp
  have HD : Hid _ := sclone_any d hd
  clear hp hd
  go_enter Tryz.func55, Tryz.ntmps55
  go_wp2
  go_region_held3 (fun w' => w'.cell? ⟨w.heap.size, 0, none⟩ = some (.string p) ∧ w'.cell? ⟨w.heap.size, 1, none⟩ = some (.string d) ∧ w'.cell? ⟨w.heap.size, 2, none⟩ = some (.int .i64 v)) (first | go_keep | exact ⟨a0, a1, a2⟩)
    (first
      | (go_at_call 17; refine (HP.out _).mono ?_; rintro e w1 ⟨rfl, hb1⟩
         have HB1 : Hid (Below w.heap.size w w1) := trans2 (((Below.refl _ _).alloc (Nat.le_refl _) _).alloc (by simp) _) ⟨hb1.os, hb1.tape, hb1.output, hb1.size, hb1.block⟩
         have HX1 : Hid (w1.heap[w.heap.size]? = some (.cells #[.string p, .string d, .int .i64 v, .int .i64 m, .int .i64 c, .int .i64 o, .int .i64 k] 63 (0, 0))) := kept_block hb1 (heap_alloc2_old _ _ _)
         have HY1 : Hid (w1.heap[w.heap.size + 1]? = some (.cells #[.string ⟨#[]⟩, .string ⟨#[]⟩, .int .i64 0] 52 (0, 0))) := kept_block hb1 (heap_alloc2_new _ _ _)
         obtain ⟨a0, a1, a2, a3, a4, a5, a6⟩ := cells_7 HX1.out
         clear hb1)
      | (go_at_call 17; refine (HD.out _).mono ?_; rintro e w2 ⟨rfl, hb2⟩
         have HB2 : Hid (Below w.heap.size w w2) := trans2 HB1.out hb2
         have HX2 : Hid _ := kept_block hb2 HX1.out
         have HY2 : Hid _ := kept_block hb2 HY1.out
         clear a0 a1 a2 a3 a4 a5 a6 hb2
         obtain ⟨a0, a1, a2, a3, a4, a5, a6⟩ := cells_7 HX2.out
         obtain ⟨b0, b1, b2⟩ := tcells_3 HY2.out
         have hg := tfree_3 HY2.out))
  go_wp2_with fail
  exact bodyPost_ret (results_cell_row rfl _ _ (w.heap.size + 1) 52 _ (0, 0) _ rfl (fill_3 HY2.out) Tryz.underlying52 rfl (by kernel_rfl)) rfl ⟨rfl, fillB_3 HB2.out (by omega)⟩

theorem fullSeen_any (p d : ByteArray) (v m c o k q : Int) (hp : p.size ≤ 281474976710656) (hd : d.size ≤ 281474976710656) (w : World) :
    Calls Tryz.prog 55 #[fuV p d v m c o k, .int .i64 q] w fun e w' => e = .returned (.agg #[.string p, .string (if q = 2 then ⟨#[]⟩ else d), .int .i64 (if q = 2 then 0 else v)]) ∧ Below w.heap.size w w' := by
  by_cases hq : q = 2
  · subst hq
    simpa using fullSeen_kids p d v m c o k hp w
  · simpa [hq] using fullSeen_whole p d v m c o k q hq hp hd w
end Go.Proofs.YtbamkdohaofgdaaGreatDoor.T
namespace Go.Proofs.YtbamkdohaofgdaaGreatDoor.T
open Go.RowKit Go.Maps
set_option linter.unusedVariables false

theorem wpList_lookup_raw {P : Program} (w : World) {ops : Array Oper} {rest : List Oper} {o : Oper} {a : Act} {Q : Exit → Act → World → Prop} (hg : o.guard = none) (m x : Operand) (t : TypeId) (hop : o.op = Op.lookup t m x false)
    (k e : TypeId) (K : Keyed P k) (ht : P.underlying t = some (.map k e)) {z : Value} (hz : (zeroValue e).run P w = .ok z w) (b n : Nat) (D : DataW Value)
    (hm : a.eval m = .map (some b)) (hown : w.ownsMap P k raw b n D) (key : Value) (kl : Lit) (hx : a.eval x = key) (hkey : keyOf P k key = some kl)
    (hK : ∀ v ps, raw v = some (D.atKey kl (.held z), ps) → wpList P ops Q rest (a.put o.dst v) w) :
    wpList P ops Q (o :: rest) a w := by
  refine wpList_plain hg fun K' hK' => ?_
  obtain ⟨v, ps, hrun, hv⟩ := hown.lookup K ht hz (zd := .held z) (zp := []) rfl hkey
  unfold Oper.wp
  simp [execOp, hop, hm, hx, hrun, Result.andThen]
  exact hK' _ _ (hK v ps hv)

def cellsOf : Value → List Value
  | .agg xs => xs.toList
  | _ => []
theorem size_of {H : Type} (D : DataW H) : (strKeys D).length = Maps.size D := by
  cases D <;> simp [strKeys, Maps.size]

/-- All that a map has are nodes, at texts that are not too long. -/
def WF (D : DataW Value) : Prop := ∀ l ∈ strKeys D, l.length ≤ 1000 ∧ ∃ p d v m c o k, look D ⟨l.toArray⟩ = fuV p d v m c o k ∧ p.size ≤ 1000 ∧ d.size ≤ 1000

end Go.Proofs.YtbamkdohaofgdaaGreatDoor.T
namespace Go.Proofs.YtbamkdohaofgdaaGreatDoor.T
open Go.RowKit Go.Maps
set_option linter.unusedVariables false
set_option linter.unusedSimpArgs false

theorem Tryz.infoSe : (Tryz.prog.info? 52).map (fun i => (i.zero, i.size, i.bytes)) = some (some (.agg #[.string ⟨#[]⟩, .string ⟨#[]⟩, .int .i64 0]), 3, 40) := by kernel_rfl
def sd (q : Int) (d : ByteArray) : ByteArray := if q = 2 then ⟨#[]⟩ else d
def sv (q : Int) (v : Int) : Int := if q = 2 then 0 else v
/-- What a watch sees of a node. -/
def seenOf (q : Int) (x : Value) : List Value := match cellsOf x with
  | p :: d :: v :: _ => [p, if q = 2 then .string ⟨#[]⟩ else d, if q = 2 then .int .i64 0 else v]
  | _ => []
def seenCs (q : Int) (D : DataW Value) (ts : List (List UInt8)) : List Value := (ts.map fun l => seenOf q (look D ⟨l.toArray⟩)).flatten
theorem seenCs_snoc (q : Int) (D : DataW Value) (ts : List (List UInt8)) (l : List UInt8) {p d : ByteArray} {v m c o k : Int} (h : look D ⟨l.toArray⟩ = fuV p d v m c o k) : seenCs q D (ts ++ [l]) = seenCs q D ts ++ [.string p, .string (sd q d), .int .i64 (sv q v)] := by
  by_cases hq : q = 2 <;> simp [seenCs, h, seenOf, fuV, cellsOf, sd, sv, hq]
theorem fullSeen_sd (p d : ByteArray) (v m c o k q : Int) (hp : p.size ≤ 281474976710656) (hd : d.size ≤ 281474976710656) (w : World) :
    Calls Tryz.prog 55 #[fuV p d v m c o k, .int .i64 q] w fun e w' => e = .returned (.agg #[.string p, .string (sd q d), .int .i64 (sv q v)]) ∧ Below w.heap.size w w' := fullSeen_any p d v m c o k q hp hd w

set_option maxHeartbeats 16000000 in
set_option maxRecDepth 100000 in
theorem part_any (hS : SortsTo) (hN : SortsNil) (base tb mb n : Nat) (D : DataW Value) (kind : Int) (at' : ByteArray) (w : World) (hg : Ground w) (hT : TreeAt w base tb mb n D) (hn : Maps.size D ≤ 1000) (hwf : WF D) (hp : isP at' = true) (hk : kind = 1 ∨ kind = 2 ∨ kind = 3) :
    Calls Tryz.prog 25 #[.pointer (some ⟨tb, 0, none⟩), .string at', .int .i64 kind] w fun e w' => ∃ (a : Option Addr) (cap : Nat) (ts : List (List UInt8)), e = .returned (.tuple #[.slice a ts.length cap, .int .i64 0]) ∧ ts.Perm ((strKeys D).filter (wF kind at')) ∧ ts.Pairwise (fun x y => ordL x y ≠ 1) ∧ w'.ownsRow w.heap.size 52 3 (.slice a ts.length cap) ts.length (seenCs kind D ts) ∧ Below w.heap.size w w' := by
  obtain ⟨i0, hi0, hz0, hz1, hz2⟩ := info_parts Tryz.infoSe
  have HT : Hid _ := hT
  have HW : Hid _ := hwf
  have HNO : Hid _ := isNone_at tb (some mb) w (cells_1 hT.box)
  have HPA : Hid (Calls Tryz.prog 53 #[.string at'] w fun e w' => ∃ (a : Option Addr) (l c : Nat), e = .returned (.tuple #[.slice a l c, .int .i64 0]) ∧ Below w.heap.size w w') := by
    refine Calls.mono (parse_any at' w hg) ?_
    rintro e w' ⟨a, c, h1, h2, h3⟩
    have h0 : (parse at').1 = 0 := by simpa [isP] using hp
    rw [h0] at h1
    exact ⟨a, _, c, h1, h3⟩
  have HWA : Hid (∀ w' : World, Below w.heap.size w w' → _) := fun w' hb => watched_any hS hN mb n D kind at' w' (hg.below hb) (hT.below hb).map (fun l hl => (hwf l hl).1) (by omega)
  have HSZ : Hid ((strKeys D).length ≤ 1000) := by rw [size_of]; exact hn
  have htl : tb < w.heap.size := (Array.getElem?_eq_some_iff.1 hT.box).1
  have HFS : Hid _ := fun p d v m c o k => fullSeen_sd p d v m c o k kind
  obtain ⟨C, hC⟩ : ∃ C, C = seenCs kind D := ⟨_, rfl⟩
  have HSN : Hid (∀ ts l p d v m c o k, look D ⟨l.toArray⟩ = fuV p d v m c o k → C (ts ++ [l]) = C ts ++ [.string p, .string (sd kind d), .int .i64 (sv kind v)]) := fun ts l p d v m c o k h => by rw [hC]; exact seenCs_snoc kind D ts l h
  have HC0 : Hid (C [] = []) := by rw [hC]; rfl
  rw [← hC]
  obtain ⟨SD, hSD⟩ : ∃ SD, SD = sd kind := ⟨_, rfl⟩
  obtain ⟨SV, hSV⟩ : ∃ SV, SV = sv kind := ⟨_, rfl⟩
  obtain ⟨FF, hFF⟩ : ∃ FF, FF = wF kind at' := ⟨_, rfl⟩
  rw [← hSD, ← hSV] at HFS HSN
  rw [← hFF] at HWA ⊢
  clear hC hSD hSV hFF hT hwf hn hg hp
  rcases hk with rfl | rfl | rfl
  all_goals
    go_enter Tryz.func25, Tryz.ntmps25
    go_wp2_with (first
      | (go_at_call 45; refine Calls.mono HNO.out ?_; rintro e w0 ⟨rfl, rfl⟩)
      | fail)
    refine Calls.mono HPA.out ?_
    rintro e wa ⟨aa, la, ca, rfl, hba⟩
    have HBA : Hid (Below w0.heap.size w0 wa) := hba
    have hcba : wa.cell? ⟨tb, 0, none⟩ = some (.map (some mb)) := cells_1 (HT.out.below hba).box
    have HWB : Hid _ := HWA.out wa hba
    clear hba
    go_wp2_with (first
      | (go_at_call 54; refine Calls.mono HWB.out ?_; rintro e w1 ⟨a1, c1, ts, rfl, hp1, hs1, hr1, hb1⟩
         have HP : Hid _ := hp1
         have HA : Hid _ := hs1
         have HR : Hid _ := hr1
         have HB : Hid (Below w0.heap.size w0 w1) := trans2 HBA.out hb1
         have HBb : Hid (wa.heap.size ≤ w1.heap.size) := hb1.size
         clear hp1 hs1 hr1 hb1 hcba)
      | fail)
    have htl1 : tb < w1.heap.size := Nat.lt_of_lt_of_le htl HB.out.size
    have HT1 : Hid _ := HT.out.below HB.out
    have hlen : ts.length ≤ 1000 := by rw [HP.out.length_eq]; exact Nat.le_trans (List.length_filter_le _ _) HSZ.out
    go_loopw [10, 40] (fun a i wr => ∃ q : Nat, i = .int .i64 q ∧ q ≤ ts.length ∧ Hid (wr.ownsRow w1.heap.size 52 3 a q (C (ts.take q))) ∧ Hid (Below w1.heap.size w1 wr)) (fun _ i _ => ts.length - (intOf i).toNat)
    case atStart => exact ⟨0, rfl, Nat.zero_le _, (by show World.ownsRow _ _ _ _ _ _ _; rw [List.take_zero, HC0.out]; exact World.ownsRow_nil _ _ _ _), Below.refl _ _⟩
    case round =>
      obtain ⟨q, rfl, hq, HO, HBk⟩ := hrel
      by_cases hlt : q < ts.length
      · obtain ⟨l, hl⟩ : ∃ l, ts[q]? = some l := ⟨ts[q], List.getElem?_eq_getElem hlt⟩
        obtain ⟨hll, p, d, v, m, c, o, k, hlk, hps, hds⟩ := HW.out l (List.mem_filter.1 (HP.out.mem_iff.1 (List.mem_of_getElem? hl))).1
        rcases HR.out.2 with ⟨hv, h0⟩ | ⟨g, cap, cur, hv, hbase, hb', h1, h2, h3, h4⟩
        · omega
        obtain ⟨rfl, rfl⟩ : a1 = some ⟨g, 0, none⟩ ∧ c1 = cap := by
          simp only [Value.slice.injEq] at hv
          exact ⟨hv.1, hv.2.2⟩
        have hgl : g < w1.heap.size := (Array.getElem?_eq_some_iff.1 hb').1
        clear hv hbase hb' h1 h2 h3 h4
        have hcq : wr.cell? ⟨g, q, none⟩ = some (.string ⟨l.toArray⟩) := by
          rw [HBk.out.cell (p := ⟨g, q, none⟩) hgl, World.ownsRow.cellAt HR.out q (by omega), List.getElem?_map, hl]
          rfl
        have hcb : wr.cell? ⟨tb, 0, none⟩ = some (.map (some mb)) := cells_1 (HT1.out.below HBk.out).box
        have HMk : Hid _ := (HT1.out.below HBk.out).map
        have hkey : keyOf Tryz.prog 9 (.string ⟨l.toArray⟩) = some (ky ⟨l.toArray⟩) := WideMaps.keyOf_string_mk Tryz.underlying9 (by show l.toArray.size ≤ maxLen; unfold maxLen; simp; omega)
        have HLK : Hid _ := hlk
        have HCP : Hid _ := HFS.out p d v m c o k (by omega) (by omega)
        have htk : ts.take (q + 1) = ts.take q ++ [l] := by rw [List.take_add_one, hl]; rfl
        have HTK : Hid (C (ts.take (q + 1)) = C (ts.take q) ++ [.string p, .string (SD d), .int .i64 (SV v)]) := by show _ = _; rw [htk]; exact HSN.out _ l p d v m c o k hlk
        have hlt' : (q : Int) < (ts.length : Int) := by omega
        clear hl hlk htk hll
        go_wp2_with (first
          | (at_lookup; refine wpList_lookup_raw _ rfl _ _ 65 rfl 9 63 keyed Tryz.underlying65 (zeroF _) mb n D rfl HMk.out _ _ rfl hkey ?_; intro u ps hu; obtain rfl := look_of hu; rw [HLK.out]; clear hu)
          | (go_at_call 55; refine (HCP.out _).mono ?_; rintro e w3 ⟨rfl, hb3⟩
             have HB3 : Hid (Below w1.heap.size w1 w3) := trans2 HBk.out hb3
             have HO3 : Hid (w3.ownsRow w1.heap.size 52 3 u10 q (C (ts.take q))) := owns_chg HO.out (Chg.of_below hb3 (fun _ => False)) (fun _ _ => id)
             have hs3 := HB3.out.size
             clear hb3)
          | (at_builtin; refine wpList_append_lies _ rfl _ _ _ rfl w1.heap.size 52 i0 _ 3 40 Tryz.underlying22 hi0 hz0 hz1 hz2 rfl (by omega) u10 q (C (ts.take q)) rfl (World.ownsRow.alloc HO3.out _) ⟨w3.heap.size, 0, none⟩ 1 1 [.string p, .string (SD d), .int .i64 (SV v)] rfl rfl (World.news_of_block (cs := #[.string p, .string (SD d), .int .i64 (SV v)]) (t := 52) (fr := (0, 0)) (heap_alloc_new w3 _)) (by simp [Value.oneCell']) (by omega) (by unfold maxLen; omega) (by omega) (by simp; omega) (w3.heap.size + 1) (by simp) ?_
             intro g4 cap4 w4 hown4 hgrow4 hat4 hlt4
             have HN4 : Hid (w4.ownsRow w1.heap.size 52 3 (.slice (some ⟨g4, 0, none⟩) (q + 1) cap4) (q + 1) (C (ts.take (q + 1)))) := by show World.ownsRow _ _ _ _ _ _ _; rw [HTK.out]; exact hown4
             have HB4 : Hid (Below w1.heap.size w1 w4) := HB3.out.trans (((Below.refl _ _).alloc (by omega) _).grown hgrow4 (by simp; omega) (fun j hj => (HO3.out.lt j hj).1))
             clear hown4 hgrow4 hat4 hlt4)
          | fail)
        go_roundw
        case rel => exact ⟨q + 1, by go_num, by omega, HN4.out, HB4.out⟩
        case measure => simp [intOf]; omega
      · obtain rfl : q = ts.length := by omega
        go_wp2
        go_ret2
        have hO := HO.out
        rw [List.take_of_length_le (Nat.le_refl _)] at hO
        rcases hO.2 with ⟨hv, h0⟩ | ⟨g5, cap5, cur5, hv, hbs, r5⟩
        · subst hv
          refine ⟨none, 0, ts, (by rw [h0]; rfl), HP.out, HA.out, ?_, trans2 HB.out HBk.out⟩
          have := List.eq_nil_of_length_eq_zero h0
          subst this
          show World.ownsRow _ _ _ _ _ _ _
          rw [HC0.out]
          exact World.ownsRow_nil _ _ _ _
        · subst hv
          exact ⟨some ⟨g5, 0, none⟩, cap5, ts, rfl, HP.out, HA.out, ⟨hO.1, .inr ⟨g5, cap5, cur5, rfl, Nat.le_trans HB.out.size hbs, r5⟩⟩, trans2 HB.out HBk.out⟩
end Go.Proofs.YtbamkdohaofgdaaGreatDoor.T
namespace Go.Proofs.YtbamkdohaofgdaaGreatDoor.T
open Go.RowKit Go.Maps Go.Sort Go.Shelf
set_option linter.unusedVariables false

/-- No more of a text than a place may have. -/
def cl (l : List UInt8) : List UInt8 := l.take 1000
def encC (l : List UInt8) : Value := encStr (cl l)
def cfC (x y : List UInt8) : Int := ordL (cl x) (cl y)
theorem cl_id {l : List UInt8} (h : l.length ≤ 1000) : cl l = l := List.take_of_length_le h

theorem lt_iff (x y : List UInt8) : ltOf cfC x y = true ↔ ordL (cl x) (cl y) = -1 := by
  unfold ltOf cfC
  rcases ordL_range (cl x) (cl y) with h | h | h <;> simp [h]
theorem swoC : SWO (ltOf cfC) where
  irrefl x := by
    cases h : ltOf cfC x x with
    | false => rfl
    | true => rw [lt_iff, ordL_self] at h; cases h
  trans x y z h1 h2 := by
    rw [lt_iff] at *
    exact ordL_trans _ _ _ h1 h2
  ntrans x y z h1 h2 := by
    cases h : ltOf cfC x z with
    | false => rfl
    | true =>
      rw [lt_iff] at h
      have g1 : ¬ ordL (cl x) (cl y) = -1 := fun e => by rw [(lt_iff x y).2 e] at h1; cases h1
      have g2 : ¬ ordL (cl y) (cl z) = -1 := fun e => by rw [(lt_iff y z).2 e] at h2; cases h2
      exfalso
      rcases ordL_range (cl x) (cl y) with e | e | e
      · exact g1 e
      · have := ordL_zero _ _ e
        rw [this] at h
        exact g2 h
      · have e' : ordL (cl y) (cl x) = -1 := by rw [ordL_anti, e]
        exact g2 (ordL_trans _ _ _ e' h)

theorem cmpC (blk off size : Nat) (w : World) : CmpReads Tryz.prog 33 #[] encC cfC blk off size w := by
  intro m os dk _ x y
  have hs : ∀ l : List UInt8, (⟨(cl l).toArray⟩ : ByteArray).size ≤ maxLen := fun l => by
    have : (cl l).length ≤ 1000 := List.length_take_le _ _
    show (cl l).toArray.size ≤ maxLen
    unfold maxLen
    simp
    omega
  have h := order_O ⟨(cl x).toArray⟩ ⟨(cl y).toArray⟩ (hs x) (hs y) (sortWorld encC w blk off m dk os)
  rw [O_list] at h
  exact h

theorem putC {w : World} {g n : Nat} {os : Array Obj} {ts : List (List UInt8)} (h : ∀ l ∈ ts, l.length ≤ 1000) : sortWorld encC w g 0 n ts.toArray os = grow (putRow encStr (Sort.ahead w n) g 0 ts.toArray) os := by
  unfold sortWorld putRow
  congr 1
  congr 1
  funext c
  unfold putCells
  congr 1
  funext k x
  split
  · rename_i hk
    have hk' : k < ts.length := by simpa using hk.2
    have e : ts.toArray[k - 0]! = ts[k] := by simp [hk']
    rw [e]
    show encStr (cl ts[k]) = encStr ts[k]
    rw [cl_id (h _ (List.getElem_mem hk'))]
  · rfl

set_option maxHeartbeats 1000000 in
theorem sorts_to : SortsTo := by
  intro base g cap ss w hr hss hlen
  rcases hr.2 with ⟨hv, _⟩ | ⟨g', cap', cur, hv, hbase, hb', h1, h2, h3, h4⟩
  · cases hv
  obtain ⟨rfl, rfl⟩ : g = g' ∧ cap = cap' := by
    simp only [Value.slice.injEq, Option.some.injEq, Addr.mk.injEq] at hv
    exact ⟨hv.1.1, hv.2.2⟩
  have hH : Holds encC w g 0 ss.toArray := fun j hj => by
    have h := holds_of_block hb' (by simpa using h4) j hj
    have hj' : j < ss.length := by simpa using hj
    have e : ss.toArray[j]! = ss[j] := by simp [hj']
    refine ⟨?_, h.2⟩
    rw [h.1, e]
    show some (encStr ss[j]) = some (encStr (cl ss[j]))
    rw [cl_id (hss _ (List.getElem_mem hj'))]
  have hcon := Any.slices_SortFunc Tryz.sortF encC (fun _ => rfl) cfC swoC 33 #[] g 0 cap ss.toArray w (enters_of Tryz.func33 (by kernel_rfl) rfl) (cmpC g 0 ss.toArray.size w).lays hH (Array.getElem?_eq_some_iff.1 hb').1 (by simp; omega)
  have HCON : Calls Tryz.prog 84 #[.slice (some ⟨g, 0, none⟩) ss.length cap, ordV] w fun e w' => e = .returned (.tuple #[]) ∧ ∃ d' n os, PermIn 0 ss.toArray.size ss.toArray d' ∧ SortedIn (ltOf cfC) 0 ss.toArray.size d' ∧ w' = sortWorld encC w g 0 n d' os := hcon
  refine Calls.mono HCON ?_
  rintro e w2 ⟨rfl, d', nn, os, hpm, hso, rfl⟩
  obtain ⟨ts, rfl⟩ : ∃ ts : List (List UInt8), d' = ts.toArray := ⟨d'.toList, by simp⟩
  have hl : ts.length = ss.length := by simpa using hpm.1
  have hpp : ts.Perm ss := by
    have := hpm.2.2
    simpa [hl, List.take_of_length_le] using this
  have hts : ∀ l ∈ ts, l.length ≤ 1000 := fun l h => hss l (hpp.mem_iff.1 h)
  rw [putC hts]
  refine ⟨rfl, ts, hpp, ?_, ?_, grownBy_sorted _⟩
  · rw [List.pairwise_iff_getElem]
    intro i j hi hj hij e
    have hs := hso i j (Nat.zero_le _) hij (by simp; omega)
    have e1 : ts.toArray[j]! = ts[j] := by simp [hj]
    have e2 : ts.toArray[i]! = ts[i] := by simp [hi]
    rw [e1, e2] at hs
    have : ltOf cfC ts[j] ts[i] = true := by
      rw [lt_iff, cl_id (hts _ (List.getElem_mem hj)), cl_id (hts _ (List.getElem_mem hi)), ordL_anti, e]
    rw [this] at hs
    cases hs
  · have := ownsRow_sorted (n := nn) (os := os) hl hbase hb' h1 h2 h3
    rw [hl]
    exact this
end Go.Proofs.YtbamkdohaofgdaaGreatDoor.T
namespace Go.Proofs.YtbamkdohaofgdaaGreatDoor.T
open Go.RowKit Go.Maps
set_option linter.unusedVariables false
set_option linter.unusedSimpArgs false

set_option maxHeartbeats 4000000 in
set_option maxRecDepth 100000 in
theorem sorts_nil : SortsNil := by
  intro w
  go_enter Tryz.func84, Tryz.ntmps84
  go_wp2_with (first | go_in | fail)
  refine wp_loop_rounds 1 ?_
  rw [rounds_succ]
  go_wp2_with (first | go_in | fail)
  refine wp_loop_rounds 1 ?_
  rw [rounds_succ]
  go_wp2_with (first | go_in | fail)
  go_end0
  simp only []
  go_wp2_with (first | go_in | fail)
  refine bodyPost_ret (results_none rfl _ _ _) rfl ?_
  simp only []
  go_wp2_with (first | go_in | fail)
  go_end0
  exact ⟨rfl, Below.refl _ _⟩
end Go.Proofs.YtbamkdohaofgdaaGreatDoor.T
namespace Go.Proofs.YtbamkdohaofgdaaGreatDoor
open Go.RowKit Go.Maps
set_option linter.unusedVariables false
set_option linter.unusedSimpArgs false

/-- What a watch sees of the nodes at places. -/
def takeT (q : Int) (D : DataW Value) (l : List UInt8) : SeenT := match T.cellsOf (T.look D ⟨l.toArray⟩) with
  | .string p :: .string d :: .int .i64 v :: _ => ⟨p, T.sd q d, T.sv q v⟩
  | _ => ⟨⟨#[]⟩, ⟨#[]⟩, 0⟩
def takeL (q : Int) (D : DataW Value) (ts : List (List UInt8)) : List SeenT := ts.map (takeT q D)
theorem takeL_cells (q : Int) (D : DataW Value) (hwf : T.WF D) (ts : List (List UInt8)) (hts : ∀ l ∈ ts, l ∈ strKeys D) : T.seenCs q D ts = seCs (takeL q D ts) := by
  induction ts with
  | nil => rfl
  | cons l ts ih =>
    obtain ⟨_, p, d, v, m, c, o, k, hlk, _, _⟩ := hwf l (hts l (by simp))
    have h1 := ih (fun x hx => hts x (by simp [hx]))
    have h2 := T.seenCs_snoc q D [] l hlk
    have e1 : T.seenCs q D (l :: ts) = T.seenCs q D [l] ++ T.seenCs q D ts := by simp [T.seenCs]
    have e2 : takeT q D l = ⟨p, T.sd q d, T.sv q v⟩ := by simp [takeT, hlk, T.fuV, T.cellsOf]
    rw [e1, h1]
    simp only [takeL, List.map_cons, seCs, List.flatten_cons, e2]
    congr 1
theorem row_cap {w : World} {B e s n cap : Nat} {a : Option Addr} {xs : List Value} (h : w.ownsRow B e s (.slice a n cap) n xs) : n ≤ cap ∧ (a = none → cap = 0) := by
  rcases h.2 with ⟨h0, _⟩ | ⟨g', cap', cur, hv, _, _, hn, _⟩
  · simp only [Value.slice.injEq] at h0
    exact ⟨by omega, fun _ => h0.2.2⟩
  · simp only [Value.slice.injEq] at hv
    exact ⟨by omega, fun ha => by rw [hv.1] at ha; cases ha⟩

theorem row_lo {w : World} {B e s n cap : Nat} {a : Option Addr} {xs : List Value} (h : w.ownsRow B e s (.slice a n cap) n xs) : ∀ b o, a = some ⟨b, o, none⟩ → B ≤ b := by
  intro b o ha
  rcases h.2 with ⟨h0, _⟩ | ⟨g', cap', cur, hv, hB, _⟩
  · simp only [Value.slice.injEq] at h0
    rw [h0.1] at ha; cases ha
  · simp only [Value.slice.injEq] at hv
    rw [hv.1] at ha
    cases ha
    exact hB
theorem ss_put4 {w : World} {g : Nat} {x0 x1 x2 x3 : Value} {a : Option Addr} {l : List SeenT} (h : Ss w a l) (hne : ∀ b o, a = some ⟨b, o, none⟩ → b ≠ g) : Ss (T.put_4 w g x0 x1 x2 x3) a l := by
  rcases h with h | ⟨b, o, ha, hlt, hs⟩
  · exact .inl h
  · exact .inr ⟨b, o, ha, by simpa [T.put_4] using hlt, fun i s hi j x hx => T.cellO_4 (hs i s hi j x hx) (hne b o ha)⟩

set_option maxHeartbeats 6400000 in
set_option maxRecDepth 100000 in
theorem take_any (base tb mb n : Nat) (D : DataW Value) (kind stamp : Int) (at' : ByteArray) (w : World) (hg : Ground w) (hT : T.TreeAt w base tb mb n D) (hn : Maps.size D ≤ 1000) (hwf : T.WF D) (hp : isP at' = true) (hk : kind = 1 ∨ kind = 2 ∨ kind = 3) (hst : isNum stamp = true) (ha : at'.size ≤ 1000) :
    Calls Tryz.prog 11 #[.pointer (some ⟨tb, 0, none⟩), .int .i64 stamp, .string at', .int .i64 kind] w fun e w' => ∃ (a : Option Addr) (c : Nat) (ts : List (List UInt8)), e = .returned (.tuple #[.agg (shA stamp at' kind a ts.length c), .int .i64 0]) ∧ ts.Perm ((strKeys D).filter (T.wF kind at')) ∧ ts.Pairwise (fun x y => ordL x y ≠ 1) ∧ Ss w' a (takeL kind D ts) ∧ ts.length ≤ c ∧ (a = none → c = 0) ∧ Below w.heap.size w w' := by
  have HB0 : Hid (Below w.heap.size w (w.alloc (.cells (shA 0 ⟨#[]⟩ 0 none 0 0) 24))) := (Below.refl _ _).alloc (Nat.le_refl _) _
  have HN : Hid (∀ w, Calls Tryz.prog 24 #[.int .i64 stamp] w fun e w' => e = .returned (.bool true) ∧ w' = w) := fun w => by have := isNumber_any stamp w; rw [hst] at this; exact this
  have HP : Hid _ := T.part_any T.sorts_to T.sorts_nil base tb mb n D kind at' _ (hg.below HB0.out) (hT.below HB0.out) hn hwf hp hk
  have HCL : Hid _ := T.sclone_any at' (by omega)
  have HW : Hid _ := hwf
  clear hg hT hn hwf hp hk hst ha
  go_enter Tryz.func11, Tryz.ntmps11
  go_wp2_with (first
    | (go_at_call 24; refine (HN.out _).mono ?_; rintro e w0 ⟨rfl, rfl⟩)
    | fail)
  refine Calls.mono HP.out ?_
  rintro e w1 ⟨a, c, ts, rfl, hp1, hs1, hr1, hb1⟩
  have hts : ∀ l ∈ ts, l ∈ strKeys D := fun l hl => (List.mem_filter.1 (hp1.mem_iff.1 hl)).1
  rw [takeL_cells kind D HW.out ts hts] at hr1
  have HS1 : Hid (Ss w1 a (takeL kind D ts)) := ss_of_row hr1
  have HC1 : Hid (ts.length ≤ c ∧ (a = none → c = 0)) := row_cap hr1
  have HF1 : Hid (∀ b o, a = some ⟨b, o, none⟩ → b ≠ w.heap.size) := fun b o ha e => by have := row_lo hr1 b o ha; simp at this; omega
  have HX1 : Hid (ts.Perm ((strKeys D).filter (T.wF kind at')) ∧ ts.Pairwise (fun x y => ordL x y ≠ 1)) := ⟨hp1, hs1⟩
  have HB1 : Hid (Below w.heap.size w w1) := trans2 HB0.out hb1
  have HR1 : Hid (w1.heap[w.heap.size]? = some (.cells (shA 0 ⟨#[]⟩ 0 none 0 0) 24 (0, 0))) := T.kept_block hb1 (heap_alloc_new _ _)
  clear hp1 hs1 hr1 hb1 hts
  go_wp2_with fail
  refine (HCL.out _).mono ?_
  rintro e w2 ⟨rfl, hb2⟩
  have HS2 : Hid (Ss w2 a (takeL kind D ts)) := HS1.out.below hb2
  have HB2 : Hid (Below w.heap.size w w2) := trans2 HB1.out hb2
  have HR2 : Hid (w2.heap[w.heap.size]? = some (.cells #[.int .i64 0, .string ⟨#[]⟩, .int .i64 0, .slice none 0 0] 24 (0, 0))) := T.kept_block hb2 HR1.out
  clear hb2
  obtain ⟨b0, b1, b2, b3⟩ := T.cells_4 HR2.out
  have f4 := T.free_4 HR2.out
  go_wp2_with fail
  exact bodyPost_ret (T.results_cell_tmp rfl _ _ w.heap.size 24 _ (0, 0) _ _ rfl rfl (T.fill_4 HR2.out) Tryz.underlying24 rfl (by kernel_rfl)) rfl ⟨a, c, ts, rfl, HX1.out.1, HX1.out.2, ss_put4 HS2.out HF1.out, HC1.out.1, HC1.out.2, T.fillB_4 HB2.out (Nat.le_refl _)⟩
end Go.Proofs.YtbamkdohaofgdaaGreatDoor
