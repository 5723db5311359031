import Derived.Test.YtdjfeomdiljaeaaGreatDoorNtRow3
import Derived.Laws.AppendOwnNone
namespace Go.Proofs.YtdjfeomdiljaeaaGreatDoor
open Go.RowKit
set_option linter.unusedVariables false
set_option linter.unusedSimpArgs false

abbrev FieldT : Type := RwN × (NoN → Prop) × (NoN → NoN)
/-- The fields in the table's order: name, what is checked, what is left when it is emptied. -/
def allT : List (ByteArray × (NoN → Prop) × (NoN → NoN)) := [(⟨#[78, 117, 109]⟩, (fun N => (1 ≤ N.num ∧ N.num ≤ 2147483647)), (fun N => { N with num := 0 })),
  (⟨#[83, 101, 115, 115, 105, 111, 110]⟩, (fun N => (1 ≤ N.se ∧ N.se ≤ 2147483647)), (fun N => { N with se := 0 })),
  (⟨#[67, 111, 110, 110]⟩, (fun N => (1 ≤ N.cn ∧ N.cn ≤ 2147483647)), (fun N => { N with cn := 0 })),
  (⟨#[82, 101, 113, 117, 101, 115, 116]⟩, (fun N => (1 ≤ N.rq ∧ N.rq ≤ 2147483647)), (fun N => { N with rq := 0 })),
  (⟨#[83, 116, 97, 109, 112]⟩, (fun N => (0 ≤ N.st ∧ N.st ≤ 2147483647)), (fun N => { N with st := 0 })),
  (⟨#[79, 102]⟩, (fun N => (0 ≤ N.of ∧ N.of ≤ 2147483647)), (fun N => { N with of := 0 })),
  (⟨#[67, 111, 109, 109, 105, 116]⟩, (fun N => (0 ≤ N.cm ∧ N.cm ≤ 2147483647)), (fun N => { N with cm := 0 })),
  (⟨#[67, 111, 100, 101]⟩, (fun N => (0 ≤ N.cd ∧ N.cd ≤ 2147483647)), (fun N => { N with cd := 0 })),
  (⟨#[86, 105, 101, 119]⟩, (fun N => nums [N.num, N.pri, N.bak]), (fun N => { N with num := 0, pri := 0, bak := 0 })),
  (⟨#[82, 101, 112, 108, 121]⟩, (fun N => nums [N.rst, N.rcd, N.rat] ∧ (((0 : Int) ≤ (N.res.length : Int) ∧ (N.res.length : Int) ≤ 4) ∧ ∀ x ∈ N.res, RsN.Ok x)), (fun N => { N with rst := 0, rcd := 0, rat := 0, resA := none, resC := 0, res := [] })),
  (⟨#[83, 116, 97, 116, 101]⟩, (fun N => (N.state.size : Int) ≤ 200000), (fun N => { N with state := ⟨#[]⟩ })),
  (⟨#[79, 112, 115]⟩, (fun N => (((0 : Int) ≤ (N.ops.length : Int) ∧ (N.ops.length : Int) ≤ 4) ∧ ∀ x ∈ N.ops, OpN.Ok x)), (fun N => { N with opsA := none, opsC := 0, ops := [] })),
  (⟨#[69, 110, 116, 114, 105, 101, 115]⟩, (fun N => (((0 : Int) ≤ (N.ents.length : Int) ∧ (N.ents.length : Int) ≤ 16) ∧ ∀ x ∈ N.ents, EnN.Ok x)), (fun N => { N with entsA := none, entsC := 0, ents := [] })),
  (⟨#[87, 97, 116, 99, 104, 101, 115]⟩, (WasOk), (fun N => { N with wasA := none, wasC := 0, was := [] })),
  (⟨#[80, 97, 114, 116, 115]⟩, (PartsOk), (fun N => { N with partsA := none, partsC := 0, parts := [] })),
  (⟨#[73, 116, 101, 109, 115]⟩, (fun N => (((1 : Int) ≤ (N.items.length : Int) ∧ (N.items.length : Int) ≤ 8) ∧ ∀ x ∈ N.items, ItN.Ok x) ∧ Rise (N.items.map fun x => x.st) ∧ (∀ (j : Nat) (x : ItN), N.items[j + 1]? = some x → x.m = false)), (fun N => { N with itemsA := none, itemsC := 0, items := [] }))]

set_option maxHeartbeats 12800000 in
set_option maxRecDepth 100000 in
theorem all_any (w : World) : Calls Tryz.prog 84 #[] w fun e w' => ∃ (g : Nat) (L : List FieldT), e = .returned (.slice (some ⟨g, 0, none⟩) 16 16) ∧ L.map (fun x => (x.1.nm, x.2)) = allT ∧ w'.heap[g]? = some (.cells (L.flatMap fun x => x.1.cl).toArray 148 (0, 0)) ∧ (∀ x ∈ L, x.1.Ck w' x.2.1 x.2.2) ∧ Below w.heap.size w w' := by
  have HB0 : Hid (Below w.heap.size w w) := Below.refl _ _
  go_enter Tryz.func84, Tryz.ntmps84
  go_wp2_with (first
    | (have hq := HB15; clear hq; go_at_call 154; refine Calls.mono (row_items _) ?_; rintro e w16 ⟨x16, rfl, hn, hc, hb⟩
       have HN16 : Hid (x16.nm = _) := hn
       have HC16 : Hid (x16.Ck w16 _ _) := hc
       have HB16 : Hid (Below w.heap.size w w16) := xtransN HB15.out hb
       have HX16 : Hid (Below w15.heap.size w15 w16) := hb
       clear hn hc hb)
    | (have hq := HB14; clear hq; go_at_call 149; refine Calls.mono (row_parts _) ?_; rintro e w15 ⟨x15, rfl, hn, hc, hb⟩
       have HN15 : Hid (x15.nm = _) := hn
       have HC15 : Hid (x15.Ck w15 _ _) := hc
       have HB15 : Hid (Below w.heap.size w w15) := xtransN HB14.out hb
       have HX15 : Hid (Below w14.heap.size w14 w15) := hb
       clear hn hc hb)
    | (have hq := HB13; clear hq; go_at_call 144; refine Calls.mono (row_was _) ?_; rintro e w14 ⟨x14, rfl, hn, hc, hb⟩
       have HN14 : Hid (x14.nm = _) := hn
       have HC14 : Hid (x14.Ck w14 _ _) := hc
       have HB14 : Hid (Below w.heap.size w w14) := xtransN HB13.out hb
       have HX14 : Hid (Below w13.heap.size w13 w14) := hb
       clear hn hc hb)
    | (have hq := HB12; clear hq; go_at_call 141; refine Calls.mono (row_ents _) ?_; rintro e w13 ⟨x13, rfl, hn, hc, hb⟩
       have HN13 : Hid (x13.nm = _) := hn
       have HC13 : Hid (x13.Ck w13 _ _) := hc
       have HB13 : Hid (Below w.heap.size w w13) := xtransN HB12.out hb
       have HX13 : Hid (Below w12.heap.size w12 w13) := hb
       clear hn hc hb)
    | (have hq := HB11; clear hq; go_at_call 138; refine Calls.mono (row_ops _) ?_; rintro e w12 ⟨x12, rfl, hn, hc, hb⟩
       have HN12 : Hid (x12.nm = _) := hn
       have HC12 : Hid (x12.Ck w12 _ _) := hc
       have HB12 : Hid (Below w.heap.size w w12) := xtransN HB11.out hb
       have HX12 : Hid (Below w11.heap.size w11 w12) := hb
       clear hn hc hb)
    | (have hq := HB10; clear hq; go_at_call 135; refine Calls.mono (row_state _) ?_; rintro e w11 ⟨x11, rfl, hn, hc, hb⟩
       have HN11 : Hid (x11.nm = _) := hn
       have HC11 : Hid (x11.Ck w11 _ _) := hc
       have HB11 : Hid (Below w.heap.size w w11) := xtransN HB10.out hb
       have HX11 : Hid (Below w10.heap.size w10 w11) := hb
       clear hn hc hb)
    | (have hq := HB9; clear hq; go_at_call 130; refine Calls.mono (row_rep _) ?_; rintro e w10 ⟨x10, rfl, hn, hc, hb⟩
       have HN10 : Hid (x10.nm = _) := hn
       have HC10 : Hid (x10.Ck w10 _ _) := hc
       have HB10 : Hid (Below w.heap.size w w10) := xtransN HB9.out hb
       have HX10 : Hid (Below w9.heap.size w9 w10) := hb
       clear hn hc hb)
    | (have hq := HB8; clear hq; go_at_call 125; refine Calls.mono (row_view _) ?_; rintro e w9 ⟨x9, rfl, hn, hc, hb⟩
       have HN9 : Hid (x9.nm = _) := hn
       have HC9 : Hid (x9.Ck w9 _ _) := hc
       have HB9 : Hid (Below w.heap.size w w9) := xtransN HB8.out hb
       have HX9 : Hid (Below w8.heap.size w8 w9) := hb
       clear hn hc hb)
    | (have hq := HB7; clear hq; go_at_call 123; refine Calls.mono (row_cd _) ?_; rintro e w8 ⟨x8, rfl, hn, hc, hb⟩
       have HN8 : Hid (x8.nm = _) := hn
       have HC8 : Hid (x8.Ck w8 _ _) := hc
       have HB8 : Hid (Below w.heap.size w w8) := xtransN HB7.out hb
       have HX8 : Hid (Below w7.heap.size w7 w8) := hb
       clear hn hc hb)
    | (have hq := HB6; clear hq; go_at_call 115; refine Calls.mono (row_cm _) ?_; rintro e w7 ⟨x7, rfl, hn, hc, hb⟩
       have HN7 : Hid (x7.nm = _) := hn
       have HC7 : Hid (x7.Ck w7 _ _) := hc
       have HB7 : Hid (Below w.heap.size w w7) := xtransN HB6.out hb
       have HX7 : Hid (Below w6.heap.size w6 w7) := hb
       clear hn hc hb)
    | (have hq := HB5; clear hq; go_at_call 115; refine Calls.mono (row_of _) ?_; rintro e w6 ⟨x6, rfl, hn, hc, hb⟩
       have HN6 : Hid (x6.nm = _) := hn
       have HC6 : Hid (x6.Ck w6 _ _) := hc
       have HB6 : Hid (Below w.heap.size w w6) := xtransN HB5.out hb
       have HX6 : Hid (Below w5.heap.size w5 w6) := hb
       clear hn hc hb)
    | (have hq := HB4; clear hq; go_at_call 115; refine Calls.mono (row_st _) ?_; rintro e w5 ⟨x5, rfl, hn, hc, hb⟩
       have HN5 : Hid (x5.nm = _) := hn
       have HC5 : Hid (x5.Ck w5 _ _) := hc
       have HB5 : Hid (Below w.heap.size w w5) := xtransN HB4.out hb
       have HX5 : Hid (Below w4.heap.size w4 w5) := hb
       clear hn hc hb)
    | (have hq := HB3; clear hq; go_at_call 115; refine Calls.mono (row_rq _) ?_; rintro e w4 ⟨x4, rfl, hn, hc, hb⟩
       have HN4 : Hid (x4.nm = _) := hn
       have HC4 : Hid (x4.Ck w4 _ _) := hc
       have HB4 : Hid (Below w.heap.size w w4) := xtransN HB3.out hb
       have HX4 : Hid (Below w3.heap.size w3 w4) := hb
       clear hn hc hb)
    | (have hq := HB2; clear hq; go_at_call 115; refine Calls.mono (row_cn _) ?_; rintro e w3 ⟨x3, rfl, hn, hc, hb⟩
       have HN3 : Hid (x3.nm = _) := hn
       have HC3 : Hid (x3.Ck w3 _ _) := hc
       have HB3 : Hid (Below w.heap.size w w3) := xtransN HB2.out hb
       have HX3 : Hid (Below w2.heap.size w2 w3) := hb
       clear hn hc hb)
    | (have hq := HB1; clear hq; go_at_call 115; refine Calls.mono (row_se _) ?_; rintro e w2 ⟨x2, rfl, hn, hc, hb⟩
       have HN2 : Hid (x2.nm = _) := hn
       have HC2 : Hid (x2.Ck w2 _ _) := hc
       have HB2 : Hid (Below w.heap.size w w2) := xtransN HB1.out hb
       have HX2 : Hid (Below w1.heap.size w1 w2) := hb
       clear hn hc hb)
    | (have hq := HB0; clear hq; go_at_call 115; refine Calls.mono (row_num _) ?_; rintro e w1 ⟨x1, rfl, hn, hc, hb⟩
       have HN1 : Hid (x1.nm = _) := hn
       have HC1 : Hid (x1.Ck w1 _ _) := hc
       have HB1 : Hid (Below w.heap.size w w1) := xtransN HB0.out hb
       clear hn hc hb)
    | fail)
  obtain ⟨W, hW⟩ : ∃ W, w16.alloc (.cells #[.string x1.nm, .func (.func x1.cF) #[] x1.cC, .func (.func x1.eF) #[] x1.eC, .func (.func x1.wF) #[] x1.wC, .func (.func x1.rF) #[] x1.rC, .string x2.nm, .func (.func x2.cF) #[] x2.cC, .func (.func x2.eF) #[] x2.eC, .func (.func x2.wF) #[] x2.wC, .func (.func x2.rF) #[] x2.rC, .string x3.nm, .func (.func x3.cF) #[] x3.cC, .func (.func x3.eF) #[] x3.eC, .func (.func x3.wF) #[] x3.wC, .func (.func x3.rF) #[] x3.rC, .string x4.nm, .func (.func x4.cF) #[] x4.cC, .func (.func x4.eF) #[] x4.eC, .func (.func x4.wF) #[] x4.wC, .func (.func x4.rF) #[] x4.rC, .string x5.nm, .func (.func x5.cF) #[] x5.cC, .func (.func x5.eF) #[] x5.eC, .func (.func x5.wF) #[] x5.wC, .func (.func x5.rF) #[] x5.rC, .string x6.nm, .func (.func x6.cF) #[] x6.cC, .func (.func x6.eF) #[] x6.eC, .func (.func x6.wF) #[] x6.wC, .func (.func x6.rF) #[] x6.rC, .string x7.nm, .func (.func x7.cF) #[] x7.cC, .func (.func x7.eF) #[] x7.eC, .func (.func x7.wF) #[] x7.wC, .func (.func x7.rF) #[] x7.rC, .string x8.nm, .func (.func x8.cF) #[] x8.cC, .func (.func x8.eF) #[] x8.eC, .func (.func x8.wF) #[] x8.wC, .func (.func x8.rF) #[] x8.rC, .string x9.nm, .func (.func x9.cF) #[] x9.cC, .func (.func x9.eF) #[] x9.eC, .func (.func x9.wF) #[] x9.wC, .func (.func x9.rF) #[] x9.rC, .string x10.nm, .func (.func x10.cF) #[] x10.cC, .func (.func x10.eF) #[] x10.eC, .func (.func x10.wF) #[] x10.wC, .func (.func x10.rF) #[] x10.rC, .string x11.nm, .func (.func x11.cF) #[] x11.cC, .func (.func x11.eF) #[] x11.eC, .func (.func x11.wF) #[] x11.wC, .func (.func x11.rF) #[] x11.rC, .string x12.nm, .func (.func x12.cF) #[] x12.cC, .func (.func x12.eF) #[] x12.eC, .func (.func x12.wF) #[] x12.wC, .func (.func x12.rF) #[] x12.rC, .string x13.nm, .func (.func x13.cF) #[] x13.cC, .func (.func x13.eF) #[] x13.eC, .func (.func x13.wF) #[] x13.wC, .func (.func x13.rF) #[] x13.rC, .string x14.nm, .func (.func x14.cF) #[] x14.cC, .func (.func x14.eF) #[] x14.eC, .func (.func x14.wF) #[] x14.wC, .func (.func x14.rF) #[] x14.rC, .string x15.nm, .func (.func x15.cF) #[] x15.cC, .func (.func x15.eF) #[] x15.eC, .func (.func x15.wF) #[] x15.wC, .func (.func x15.rF) #[] x15.rC, .string x16.nm, .func (.func x16.cF) #[] x16.cC, .func (.func x16.eF) #[] x16.eC, .func (.func x16.wF) #[] x16.wC, .func (.func x16.rF) #[] x16.rC] 148) = W := ⟨_, rfl⟩
  have hH : W.heap[w16.heap.size]? = some (.cells #[.string x1.nm, .func (.func x1.cF) #[] x1.cC, .func (.func x1.eF) #[] x1.eC, .func (.func x1.wF) #[] x1.wC, .func (.func x1.rF) #[] x1.rC, .string x2.nm, .func (.func x2.cF) #[] x2.cC, .func (.func x2.eF) #[] x2.eC, .func (.func x2.wF) #[] x2.wC, .func (.func x2.rF) #[] x2.rC, .string x3.nm, .func (.func x3.cF) #[] x3.cC, .func (.func x3.eF) #[] x3.eC, .func (.func x3.wF) #[] x3.wC, .func (.func x3.rF) #[] x3.rC, .string x4.nm, .func (.func x4.cF) #[] x4.cC, .func (.func x4.eF) #[] x4.eC, .func (.func x4.wF) #[] x4.wC, .func (.func x4.rF) #[] x4.rC, .string x5.nm, .func (.func x5.cF) #[] x5.cC, .func (.func x5.eF) #[] x5.eC, .func (.func x5.wF) #[] x5.wC, .func (.func x5.rF) #[] x5.rC, .string x6.nm, .func (.func x6.cF) #[] x6.cC, .func (.func x6.eF) #[] x6.eC, .func (.func x6.wF) #[] x6.wC, .func (.func x6.rF) #[] x6.rC, .string x7.nm, .func (.func x7.cF) #[] x7.cC, .func (.func x7.eF) #[] x7.eC, .func (.func x7.wF) #[] x7.wC, .func (.func x7.rF) #[] x7.rC, .string x8.nm, .func (.func x8.cF) #[] x8.cC, .func (.func x8.eF) #[] x8.eC, .func (.func x8.wF) #[] x8.wC, .func (.func x8.rF) #[] x8.rC, .string x9.nm, .func (.func x9.cF) #[] x9.cC, .func (.func x9.eF) #[] x9.eC, .func (.func x9.wF) #[] x9.wC, .func (.func x9.rF) #[] x9.rC, .string x10.nm, .func (.func x10.cF) #[] x10.cC, .func (.func x10.eF) #[] x10.eC, .func (.func x10.wF) #[] x10.wC, .func (.func x10.rF) #[] x10.rC, .string x11.nm, .func (.func x11.cF) #[] x11.cC, .func (.func x11.eF) #[] x11.eC, .func (.func x11.wF) #[] x11.wC, .func (.func x11.rF) #[] x11.rC, .string x12.nm, .func (.func x12.cF) #[] x12.cC, .func (.func x12.eF) #[] x12.eC, .func (.func x12.wF) #[] x12.wC, .func (.func x12.rF) #[] x12.rC, .string x13.nm, .func (.func x13.cF) #[] x13.cC, .func (.func x13.eF) #[] x13.eC, .func (.func x13.wF) #[] x13.wC, .func (.func x13.rF) #[] x13.rC, .string x14.nm, .func (.func x14.cF) #[] x14.cC, .func (.func x14.eF) #[] x14.eC, .func (.func x14.wF) #[] x14.wC, .func (.func x14.rF) #[] x14.rC, .string x15.nm, .func (.func x15.cF) #[] x15.cC, .func (.func x15.eF) #[] x15.eC, .func (.func x15.wF) #[] x15.wC, .func (.func x15.rF) #[] x15.rC, .string x16.nm, .func (.func x16.cF) #[] x16.cC, .func (.func x16.eF) #[] x16.eC, .func (.func x16.wF) #[] x16.wC, .func (.func x16.rF) #[] x16.rC] 148 (0, 0)) := by rw [← hW]; exact heap_alloc_new _ _
  have F16 : Below w16.heap.size w16 W := by rw [← hW]; exact (Below.refl _ _).alloc (Nat.le_refl _) _
  have F15 : Below w15.heap.size w15 W := xtransN HX16.out F16
  have F14 : Below w14.heap.size w14 W := xtransN HX15.out F15
  have F13 : Below w13.heap.size w13 W := xtransN HX14.out F14
  have F12 : Below w12.heap.size w12 W := xtransN HX13.out F13
  have F11 : Below w11.heap.size w11 W := xtransN HX12.out F12
  have F10 : Below w10.heap.size w10 W := xtransN HX11.out F11
  have F9 : Below w9.heap.size w9 W := xtransN HX10.out F10
  have F8 : Below w8.heap.size w8 W := xtransN HX9.out F9
  have F7 : Below w7.heap.size w7 W := xtransN HX8.out F8
  have F6 : Below w6.heap.size w6 W := xtransN HX7.out F7
  have F5 : Below w5.heap.size w5 W := xtransN HX6.out F6
  have F4 : Below w4.heap.size w4 W := xtransN HX5.out F5
  have F3 : Below w3.heap.size w3 W := xtransN HX4.out F4
  have F2 : Below w2.heap.size w2 W := xtransN HX3.out F3
  have F1 : Below w1.heap.size w1 W := xtransN HX2.out F2
  have FB : Below w.heap.size w W := xtransN HB16.out F16
  rw [hW]
  clear hW
  go_ret
  refine ⟨w16.heap.size, [((x1, (fun N => (1 ≤ N.num ∧ N.num ≤ 2147483647)), (fun N => { N with num := 0 })) : FieldT), ((x2, (fun N => (1 ≤ N.se ∧ N.se ≤ 2147483647)), (fun N => { N with se := 0 })) : FieldT), ((x3, (fun N => (1 ≤ N.cn ∧ N.cn ≤ 2147483647)), (fun N => { N with cn := 0 })) : FieldT), ((x4, (fun N => (1 ≤ N.rq ∧ N.rq ≤ 2147483647)), (fun N => { N with rq := 0 })) : FieldT), ((x5, (fun N => (0 ≤ N.st ∧ N.st ≤ 2147483647)), (fun N => { N with st := 0 })) : FieldT), ((x6, (fun N => (0 ≤ N.of ∧ N.of ≤ 2147483647)), (fun N => { N with of := 0 })) : FieldT), ((x7, (fun N => (0 ≤ N.cm ∧ N.cm ≤ 2147483647)), (fun N => { N with cm := 0 })) : FieldT), ((x8, (fun N => (0 ≤ N.cd ∧ N.cd ≤ 2147483647)), (fun N => { N with cd := 0 })) : FieldT), ((x9, (fun N => nums [N.num, N.pri, N.bak]), (fun N => { N with num := 0, pri := 0, bak := 0 })) : FieldT), ((x10, (fun N => nums [N.rst, N.rcd, N.rat] ∧ (((0 : Int) ≤ (N.res.length : Int) ∧ (N.res.length : Int) ≤ 4) ∧ ∀ x ∈ N.res, RsN.Ok x)), (fun N => { N with rst := 0, rcd := 0, rat := 0, resA := none, resC := 0, res := [] })) : FieldT), ((x11, (fun N => (N.state.size : Int) ≤ 200000), (fun N => { N with state := ⟨#[]⟩ })) : FieldT), ((x12, (fun N => (((0 : Int) ≤ (N.ops.length : Int) ∧ (N.ops.length : Int) ≤ 4) ∧ ∀ x ∈ N.ops, OpN.Ok x)), (fun N => { N with opsA := none, opsC := 0, ops := [] })) : FieldT), ((x13, (fun N => (((0 : Int) ≤ (N.ents.length : Int) ∧ (N.ents.length : Int) ≤ 16) ∧ ∀ x ∈ N.ents, EnN.Ok x)), (fun N => { N with entsA := none, entsC := 0, ents := [] })) : FieldT), ((x14, (WasOk), (fun N => { N with wasA := none, wasC := 0, was := [] })) : FieldT), ((x15, (PartsOk), (fun N => { N with partsA := none, partsC := 0, parts := [] })) : FieldT), ((x16, (fun N => (((1 : Int) ≤ (N.items.length : Int) ∧ (N.items.length : Int) ≤ 8) ∧ ∀ x ∈ N.items, ItN.Ok x) ∧ Rise (N.items.map fun x => x.st) ∧ (∀ (j : Nat) (x : ItN), N.items[j + 1]? = some x → x.m = false)), (fun N => { N with itemsA := none, itemsC := 0, items := [] })) : FieldT)], rfl, ?_, hH, ?_, FB⟩
  · show [(x1.nm, (fun N => (1 ≤ N.num ∧ N.num ≤ 2147483647)), (fun N => { N with num := 0 })), (x2.nm, (fun N => (1 ≤ N.se ∧ N.se ≤ 2147483647)), (fun N => { N with se := 0 })), (x3.nm, (fun N => (1 ≤ N.cn ∧ N.cn ≤ 2147483647)), (fun N => { N with cn := 0 })), (x4.nm, (fun N => (1 ≤ N.rq ∧ N.rq ≤ 2147483647)), (fun N => { N with rq := 0 })), (x5.nm, (fun N => (0 ≤ N.st ∧ N.st ≤ 2147483647)), (fun N => { N with st := 0 })), (x6.nm, (fun N => (0 ≤ N.of ∧ N.of ≤ 2147483647)), (fun N => { N with of := 0 })), (x7.nm, (fun N => (0 ≤ N.cm ∧ N.cm ≤ 2147483647)), (fun N => { N with cm := 0 })), (x8.nm, (fun N => (0 ≤ N.cd ∧ N.cd ≤ 2147483647)), (fun N => { N with cd := 0 })), (x9.nm, (fun N => nums [N.num, N.pri, N.bak]), (fun N => { N with num := 0, pri := 0, bak := 0 })), (x10.nm, (fun N => nums [N.rst, N.rcd, N.rat] ∧ (((0 : Int) ≤ (N.res.length : Int) ∧ (N.res.length : Int) ≤ 4) ∧ ∀ x ∈ N.res, RsN.Ok x)), (fun N => { N with rst := 0, rcd := 0, rat := 0, resA := none, resC := 0, res := [] })), (x11.nm, (fun N => (N.state.size : Int) ≤ 200000), (fun N => { N with state := ⟨#[]⟩ })), (x12.nm, (fun N => (((0 : Int) ≤ (N.ops.length : Int) ∧ (N.ops.length : Int) ≤ 4) ∧ ∀ x ∈ N.ops, OpN.Ok x)), (fun N => { N with opsA := none, opsC := 0, ops := [] })), (x13.nm, (fun N => (((0 : Int) ≤ (N.ents.length : Int) ∧ (N.ents.length : Int) ≤ 16) ∧ ∀ x ∈ N.ents, EnN.Ok x)), (fun N => { N with entsA := none, entsC := 0, ents := [] })), (x14.nm, (WasOk), (fun N => { N with wasA := none, wasC := 0, was := [] })), (x15.nm, (PartsOk), (fun N => { N with partsA := none, partsC := 0, parts := [] })), (x16.nm, (fun N => (((1 : Int) ≤ (N.items.length : Int) ∧ (N.items.length : Int) ≤ 8) ∧ ∀ x ∈ N.items, ItN.Ok x) ∧ Rise (N.items.map fun x => x.st) ∧ (∀ (j : Nat) (x : ItN), N.items[j + 1]? = some x → x.m = false)), (fun N => { N with itemsA := none, itemsC := 0, items := [] }))] = allT
    rw [HN1.out, HN2.out, HN3.out, HN4.out, HN5.out, HN6.out, HN7.out, HN8.out, HN9.out, HN10.out, HN11.out, HN12.out, HN13.out, HN14.out, HN15.out, HN16.out]
    rfl
  · intro x hx
    simp only [List.mem_cons, List.not_mem_nil, or_false] at hx
    rcases hx with rfl | rfl | rfl | rfl | rfl | rfl | rfl | rfl | rfl | rfl | rfl | rfl | rfl | rfl | rfl | rfl
    · exact HC1.out.below F1
    · exact HC2.out.below F2
    · exact HC3.out.below F3
    · exact HC4.out.below F4
    · exact HC5.out.below F5
    · exact HC6.out.below F6
    · exact HC7.out.below F7
    · exact HC8.out.below F8
    · exact HC9.out.below F9
    · exact HC10.out.below F10
    · exact HC11.out.below F11
    · exact HC12.out.below F12
    · exact HC13.out.below F13
    · exact HC14.out.below F14
    · exact HC15.out.below F15
    · exact HC16.out.below F16
end Go.Proofs.YtdjfeomdiljaeaaGreatDoor
namespace Go.Proofs.YtdjfeomdiljaeaaGreatDoor
open Go.RowKit
set_option linter.unusedVariables false
set_option linter.unusedSimpArgs false

set_option maxHeartbeats 1600000 in
theorem isName (x : RwN) (nm : ByteArray) (s : Nat) (W : World) (hs : W.cell? ⟨s, 0, none⟩ = some (.string nm)) :
    Calls Tryz.prog 87 #[.agg #[.string x.nm, .func (.func x.cF) #[] x.cC, .func (.func x.eF) #[] x.eC, .func (.func x.wF) #[] x.wC, .func (.func x.rF) #[] x.rC], ptV s] W fun e W' => e = .returned (.bool (x.nm.toList == nm.toList)) ∧ Below W.heap.size W W' := by
  obtain ⟨W1, hW1⟩ : ∃ W1, W.alloc (.cells #[.string x.nm, .func (.func x.cF) #[] x.cC, .func (.func x.eF) #[] x.eC, .func (.func x.wF) #[] x.wC, .func (.func x.rF) #[] x.rC] 148) = W1 := ⟨_, rfl⟩
  have HB1 : Hid (Below W.heap.size W W1) := by rw [← hW1]; exact (Below.refl _ _).alloc (Nat.le_refl _) _
  have HE1 : Hid (W1.heap[W.heap.size]? = some (.cells #[.string x.nm, .func (.func x.cF) #[] x.cC, .func (.func x.eF) #[] x.eC, .func (.func x.wF) #[] x.wC, .func (.func x.rF) #[] x.rC] 148 (0, 0))) := by show _ = _; rw [← hW1]; exact heap_alloc_new _ _
  have HW1 : Hid (_ = W1) := hW1
  have hs1 := below_cell HB1.out hs
  clear hW1 hs
  go_enter Tryz.func87, Tryz.ntmps87
  go_upto_region 1 with fail
  rw [HW1.out]
  obtain ⟨c0, _⟩ := cells_5N HE1.out
  go_wp2_with fail
  go_ret
  exact ⟨rfl, HB1.out⟩
set_option maxHeartbeats 6400000 in
theorem index_any (a : Option Addr) (L : List FieldT) (i : Nat) (x : FieldT) (nm : ByteArray) (s : Nat) (w : World) (hL : RowC w a 5 (L.map fun x => x.1.cl)) (hs : w.cell? ⟨s, 0, none⟩ = some (.string nm)) (hx : L[i]? = some x) (hn : (x.1.nm.toList == nm.toList) = true) (hb : ∀ j y, j < i → L[j]? = some y → (y.1.nm.toList == nm.toList) = false) (c : Nat) :
    Calls Tryz.prog 86 #[.slice a L.length c, .func (.func 87) #[] #[ptV s]] w fun e w' => e = .returned (.int .i64 i) ∧ Below w.heap.size w w' := by
  have HL : Hid (RowC w a 5 (L.map fun x => x.1.cl)) := hL
  have HS : Hid (w.cell? ⟨s, 0, none⟩ = some (.string nm)) := hs
  have HX : Hid (L[i]? = some x) := hx
  have HN : Hid ((x.1.nm.toList == nm.toList) = true) := hn
  have HBF : Hid (∀ j y, j < i → L[j]? = some y → (y.1.nm.toList == nm.toList) = false) := hb
  obtain ⟨m, hm⟩ : ∃ m, L.length = m := ⟨_, rfl⟩
  have HM : Hid (L.length = m) := hm
  have him : i < m := by rw [← hm]; exact (List.getElem?_eq_some_iff.1 hx).1
  have hlen := hL.len
  rw [hm] at hlen ⊢
  clear hL hs hx hn hb hm
  go_enter Tryz.func86, Tryz.ntmps86
  go_wp2_with fail
  go_loopw [8] (fun iv wr => ∃ q : Nat, iv = .int .i64 q ∧ q ≤ i ∧ Hid (Below w.heap.size w wr)) (fun iv _ => m - (intOf iv).toNat)
  case atStart => exact ⟨0, rfl, Nat.zero_le _, Below.refl _ _⟩
  case round =>
    obtain ⟨q, rfl, hqi, HBr⟩ := hrel
    have hlt' : (q : Int) < (m : Int) := by omega
    have hq0 : (0 : Int) ≤ (q : Int) := by omega
    obtain ⟨y, hy⟩ : ∃ y, L[q]? = some y := ⟨L[q]'(by rw [HM.out]; omega), List.getElem?_eq_getElem _⟩
    obtain ⟨g', o, rfl, n0, n1, n2, n3, n4⟩ := (HL.out.below HBr.out).at5 (map_at (f := fun x : FieldT => x.1.cl) hy)
    have HY : Hid (L[q]? = some y) := hy
    have HI : Hid _ := isName y.1 nm s wr (below_cell HBr.out HS.out)
    clear hy
    by_cases he : q = i
    · have hb1 : (y.1.nm.toList == nm.toList) = true := by
        have h1 := HY.out
        rw [he, HX.out] at h1
        cases h1
        exact HN.out
      have HQI : Hid (q = i) := he
      clear he
      go_wp2_with (first
        | (go_at_call 87; refine Calls.mono HI.out ?_; rintro e w2 ⟨rfl, hb⟩
           have HB2 : Hid (Below w.heap.size w w2) := xtransN HBr.out hb
           clear hb n0 n1 n2 n3 n4)
        | fail)
      go_ret
      exact ⟨by show Ending.returned (.int .i64 (q : Int)) = _; rw [HQI.out], HB2.out⟩
    · have hb1 : (y.1.nm.toList == nm.toList) = false := HBF.out q y (by omega) HY.out
      go_wp2_with (first
        | (go_at_call 87; refine Calls.mono HI.out ?_; rintro e w2 ⟨rfl, hb⟩
           have HB2 : Hid (Below w.heap.size w w2) := xtransN HBr.out hb
           clear hb n0 n1 n2 n3 n4)
        | fail)
      go_roundw
      case rel => exact ⟨q + 1, by go_num, by omega, HB2⟩
      case measure => simp [intOf]; omega
end Go.Proofs.YtdjfeomdiljaeaaGreatDoor
namespace Go.Proofs.YtdjfeomdiljaeaaGreatDoor
open Go.RowKit
set_option linter.unusedVariables false
set_option linter.unusedSimpArgs false

theorem flat_at {E : Type} {f : E → List Value} {k : Nat} (hk : ∀ x, (f x).length = k) : ∀ (L : List E) (j t : Nat) (x : E) (v : Value), L[j]? = some x → (f x)[t]? = some v → (L.flatMap f)[j * k + t]? = some v
  | [], j, t, x, v, h, _ => by simp at h
  | y :: L, 0, t, x, v, h, hv => by
    have e : y = x := by simpa using h
    subst e
    have ht : t < (f y).length := (List.getElem?_eq_some_iff.1 hv).1
    rw [List.flatMap_cons, Nat.zero_mul, Nat.zero_add, List.getElem?_append_left ht]
    exact hv
  | y :: L, j + 1, t, x, v, h, hv => by
    have h' : L[j]? = some x := by simpa using h
    have ih := flat_at hk L j t x v h' hv
    rw [List.flatMap_cons, List.getElem?_append_right (by rw [hk, Nat.succ_mul]; omega), hk, show (j + 1) * k + t - k = j * k + t by rw [Nat.succ_mul]; omega]
    exact ih
theorem rowC_flat {E : Type} {f : E → List Value} {k : Nat} {W : World} {g : Nat} {ty : TypeId} {L : List E} (hk : ∀ x, (f x).length = k) (hl : L.length ≤ maxLen) (h : W.heap[g]? = some (.cells (L.flatMap f).toArray ty (0, 0))) : RowC W (some ⟨g, 0, none⟩) k (L.map f) := by
  refine ⟨by rw [List.length_map]; exact hl, .inr ⟨g, 0, rfl, lt_of_blk h, fun j t cs v hj hv => ?_⟩⟩
  rw [List.getElem?_map] at hj
  obtain ⟨x, hx, rfl⟩ := Option.map_eq_some_iff.1 hj
  have h1 := flat_at hk L j t x v hx hv
  unfold World.cell?
  rw [h, Nat.zero_add]
  simpa using h1
/-- allFields' rows, as a row of cells that came in. -/
theorem all_row (w : World) : Calls Tryz.prog 84 #[] w fun e w' => ∃ (g : Nat) (L : List FieldT), e = .returned (.slice (some ⟨g, 0, none⟩) 16 16) ∧ L.length = 16 ∧ L.map (fun x => (x.1.nm, x.2)) = allT ∧ RowC w' (some ⟨g, 0, none⟩) 5 (L.map fun x => x.1.cl) ∧ (∀ x ∈ L, x.1.Ck w' x.2.1 x.2.2) ∧ Below w.heap.size w w' := by
  refine (all_any w).mono ?_
  rintro e w' ⟨g, L, rfl, hn, hb, hc, hbel⟩
  have hl : L.length = 16 := by
    have h1 := congrArg List.length hn
    rw [List.length_map] at h1
    rw [h1]
    rfl
  exact ⟨g, L, rfl, hl, hn, rowC_flat (fun x => rfl) (by rw [hl]; decide) hb, hc, hbel⟩
end Go.Proofs.YtdjfeomdiljaeaaGreatDoor
namespace Go.Proofs.YtdjfeomdiljaeaaGreatDoor
open Go.RowKit
set_option linter.unusedVariables false
set_option linter.unusedSimpArgs false

abbrev fCs (L : List FieldT) : List Value := L.flatMap fun x => x.1.cl
theorem Tryz.infoF : (Tryz.prog.info? 148).map (fun i => (i.zero, i.size, i.bytes)) = some (some (.agg #[.string ⟨#[]⟩, .nilFunc, .nilFunc, .nilFunc, .nilFunc]), 5, 48) := by kernel_rfl
theorem fCs_one (x : RwN) : ∀ v ∈ x.cl, v.oneCell' = true := by
  intro v hv
  simp at hv
  rcases hv with rfl | rfl | rfl | rfl | rfl <;> rfl
theorem info_partsN {P : Program} {t : TypeId} {z : Value} {n m : Nat} (h : (P.info? t).map (fun i => (i.zero, i.size, i.bytes)) = some (some z, n, m)) : ∃ i, P.info? t = some i ∧ i.zero = some z ∧ i.size = n ∧ i.bytes = m := by
  cases hq : P.info? t with
  | none => simp [hq] at h
  | some i =>
    simp [hq] at h
    exact ⟨i, rfl, h.1, h.2.1, h.2.2⟩
theorem wpList_appF {w : World} {ops : Array Oper} {rest : List Oper} {op : Oper} {act : Act} {Q : Exit → Act → World → Prop} (hgd : op.guard = none) (s x : Operand)
    (ho : op.op = .call { callee := .builtin .append, args := #[s, x], argTypes := #[98, 98] }) (base : Nat) (v : Value) (L : List FieldT) (hs : act.eval s = v) (hown : w.ownsRow base 148 5 v L.length (fCs L))
    (gx : Nat) (o : FieldT) (hx : act.eval x = .slice (some ⟨gx, 0, none⟩) 1 1) (hby : w.heap[gx]? = some (.cells o.1.cl.toArray 148 (0, 0))) (hlen : L.length + 1 ≤ 1000000) (hB : base ≤ w.heap.size)
    (h : ∀ v' w', w'.ownsRow base 148 5 v' (L ++ [o]).length (fCs (L ++ [o])) → Below base w w' → wpList Tryz.prog ops Q rest (act.put op.dst v') w') : wpList Tryz.prog ops Q (op :: rest) act w := by
  obtain ⟨i0, hi, hz0, hz1, hz2⟩ := info_partsN Tryz.infoF
  refine wpList_append_own_at _ hgd s x 98 ho base 148 i0 _ 5 48 Tryz.underlying98 hi hz0 hz1 hz2 rfl (by decide) v L.length (fCs L) hs hown ⟨gx, 0, none⟩ 1 1 o.1.cl hx rfl (fun j u hu => ?_) (fCs_one o.1) (by unfold maxLen; omega) (by omega) hB ?_
  · rw [addr_add, Nat.zero_add]
    simp only [World.cell?, hby]
    simpa using hu
  · intro v' w' ho' hg' _ hat'
    refine h v' w' ?_ ((Chg.grown hg').below hB (fun k hk e => (hown.lt k e).1))
    have e : fCs (L ++ [o]) = fCs L ++ o.1.cl := by simp [fCs]
    rw [List.length_append, e]
    exact ho'
end Go.Proofs.YtdjfeomdiljaeaaGreatDoor
