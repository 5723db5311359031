/-
  trie: Of.
-/
import Derived.Test.YtbblckcjedjbcaaGreatDoorXAt
namespace Go.Proofs.YtbblckcjedjbcaaGreatDoor
open Go.RowKit Go.Maps
set_option linter.unusedVariables false
set_option linter.unusedSimpArgs false

/-- A watch. -/
structure Wa where
  i : Int
  p : ByteArray
  k : Int
  f : Int
abbrev Wa.cs (x : Wa) : List Value := [.int .i64 x.i, .string x.p, .int .i64 x.k, .int .i64 x.f]
abbrev On.wa (o : On) : Wa := ⟨o.i, o.p, o.k, o.f⟩
abbrev He.wa (h : He) : Wa := ⟨h.i, h.p, h.k, h.f⟩
def waCs (l : List Wa) : List Value := l.flatMap Wa.cs
theorem waCs_append (A B : List Wa) : waCs (A ++ B) = waCs A ++ waCs B := by simp [waCs]
theorem waCs_len (L : List Wa) : (waCs L).length = L.length * 4 := by
  induction L with
  | nil => rfl
  | cons o r ih =>
    have e : waCs (o :: r) = o.cs ++ waCs r := rfl
    rw [e, List.length_append, ih, List.length_cons]
    simp only [List.length_cons, List.length_nil]
    omega
theorem waCs_at (L : List Wa) (j t : Nat) (o : Wa) (v : Value) (h : L[j]? = some o) (hv : o.cs[t]? = some v) : (waCs L)[j * 4 + t]? = some v := by
  induction L generalizing j with
  | nil => simp at h
  | cons a r ih =>
    have e : waCs (a :: r) = a.cs ++ waCs r := rfl
    have ht : t < 4 := (List.getElem?_eq_some_iff.1 hv).1
    rw [e]
    cases j with
    | zero =>
      have : a = o := by simpa using h
      subst this
      rw [Nat.zero_mul, Nat.zero_add, List.getElem?_append_left (by simpa using ht)]
      exact hv
    | succ j =>
      have h1 := ih j (by simpa using h)
      rw [List.getElem?_append_right (by simp; omega)]
      have e2 : (j + 1) * 4 + t - a.cs.length = j * 4 + t := by simp; omega
      rw [e2]
      exact h1
theorem Tryz.infoW9 : (Tryz.prog.info? 40).map (fun i => (i.zero, i.size, i.bytes)) = some (some (.agg #[.int .i64 0, .string ⟨#[]⟩, .int .i64 0, .int .i64 0]), 4, 40) := by kernel_rfl
theorem waCs_one (o : Wa) : ∀ v ∈ o.cs, v.oneCell' = true := by
  intro v hv
  simp at hv
  rcases hv with rfl | rfl | rfl | rfl <;> rfl
theorem wpList_appW {w : World} {ops : Array Oper} {rest : List Oper} {op : Oper} {act : Act} {Q : Exit → Act → World → Prop} (hgd : op.guard = none) (s x : Operand)
    (ho : op.op = .call { callee := .builtin .append, args := #[s, x], argTypes := #[43, 43] }) (base : Nat) (v : Value) (L : List Wa) (hs : act.eval s = v) (hown : w.ownsRow base 40 4 v L.length (waCs L))
    (gx : Nat) (o : Wa) (hx : act.eval x = .slice (some ⟨gx, 0, none⟩) 1 1) (hby : w.heap[gx]? = some (.cells #[.int .i64 o.i, .string o.p, .int .i64 o.k, .int .i64 o.f] 40 (0, 0))) (hlen : L.length + 1 ≤ 1000000) (hB : base ≤ w.heap.size)
    (h : ∀ v' w', w'.ownsRow base 40 4 v' (L ++ [o]).length (waCs (L ++ [o])) → Below base w w' → wpList Tryz.prog ops Q rest (act.put op.dst v') w') : wpList Tryz.prog ops Q (op :: rest) act w := by
  obtain ⟨i0, hi, hz0, hz1, hz2⟩ := info_parts Tryz.infoW9
  refine wpList_append_own_at _ hgd s x 43 ho base 40 i0 _ 4 40 Tryz.underlying43 hi hz0 hz1 hz2 rfl (by decide) v L.length (waCs L) hs hown ⟨gx, 0, none⟩ 1 1 o.cs hx rfl (fun j u hu => ?_) (waCs_one o) (by unfold maxLen; omega) (by omega) hB ?_
  · rw [addr_add, Nat.zero_add]
    have hj : j < 4 := (List.getElem?_eq_some_iff.1 hu).1
    simp only [World.cell?, hby]
    match j, hj with
    | 0, _ => simpa using hu
    | 1, _ => simpa using hu
    | 2, _ => simpa using hu
    | 3, _ => simpa using hu
  · intro v' w' ho' hg' _ hat'
    refine h v' w' ?_ ((Chg.grown hg').below hB (fun k hk e => (hown.lt k e).1))
    have e : waCs (L ++ [o]) = waCs L ++ o.cs := by rw [waCs_append]; simp [waCs]
    rw [List.length_append, e]
    exact ho'
theorem take_next {α β : Type} {l : List α} {j : Nat} {x : α} (h : l[j]? = some x) (f : α → β) : (l.take (j + 1)).map f = (l.take j).map f ++ [f x] := by
  rw [List.take_add_one, h]
  simp
set_option maxHeartbeats 32000000 in
set_option maxRecDepth 100000 in
theorem of_ok (w : World) (B : Nat) (y : Lay) (D : List Way) (σ : Option Nat) (τ : Int → Value) (hs : List He) (s : Int) (hT : TrieAt w B y D σ τ hs) (hlen : hs.length ≤ 1000) (hwf : wfI s) :
    Calls Tryz.prog 14 #[ndV B, .int .i64 s] w fun e w' => ∃ v, e = .returned v ∧ w'.ownsRow w.heap.size 40 4 v ((ofS hs s).map He.wa).length (waCs ((ofS hs s).map He.wa)) ∧ Below w.heap.size w w' := by
  obtain ⟨a, c, hτ, hl⟩ := hT.ses.hl (fun x hx => hT.tr.held x hx) s
  have HOF : Hid (Calls Tryz.prog 36 #[ndV B, .int .i64 s] w fun e w' => e = .returned (.slice a (ofS hs s).length c) ∧ w' = w) := by rw [← hτ]; exact of_any w B y D _ τ hs s hT hwf
  have HL : Hid (Hl w a c (ofS hs s)) := hl
  have HOK : Hid (∀ x ∈ ofS hs s, x.p.size ≤ 102) := fun x hx => psize (by rw [hT.ok x (ofS_mem.1 hx).1])
  have hml : (ofS hs s).length ≤ 1000 := by have := lenS (hs := hs) s; omega
  obtain ⟨m, hm⟩ : ∃ m, ofS hs s = m := ⟨_, rfl⟩
  rw [hm] at HOF HL HOK hml ⊢
  clear hT hlen hwf hτ hl hm
  go_enter Tryz.func14, Tryz.ntmps14
  go_wp2_with (first
    | (go_at_call 36; refine Calls.mono HOF.out ?_; rintro e w1 ⟨rfl, rfl⟩)
    | fail)
  go_loopw [5, 13] (fun vt vi wr => ∃ j : Nat, vi = .int .i64 j ∧ j ≤ m.length ∧ Hid (wr.ownsRow w1.heap.size 40 4 vt ((m.take j).map He.wa).length (waCs ((m.take j).map He.wa))) ∧ Hid (Below w1.heap.size w1 wr)) (fun _ vi _ => m.length - (intOf vi).toNat)
  case atStart => exact ⟨0, rfl, Nat.zero_le _, World.ownsRow_nil _ _ _ _, Below.refl _ _⟩
  case round =>
    obtain ⟨j, rfl, hj, HO, HB⟩ := hrel
    by_cases hlt : j < m.length
    · have hlt' : (j : Int) < (m.length : Int) := by omega
      obtain ⟨x, hx⟩ : ∃ x, m[j]? = some x := ⟨m[j], List.getElem?_eq_getElem hlt⟩
      obtain ⟨g, rfl, p0, hh⟩ := (HL.out.below HB.out).at hx
      obtain ⟨x0, x1, x2, x3, x4⟩ := cells_5 hh
      have hxs : x.p.size ≤ 281474976710656 := by have := HOK.out x (List.mem_of_getElem? hx); omega
      have HTN : Hid _ := take_next hx He.wa
      obtain ⟨W4, hW4⟩ : ∃ z, wr.alloc (.cells #[.int .i64 x.i, .string x.p, .int .i64 x.k, .int .i64 x.f] 40) = z := ⟨_, rfl⟩
      have HW4 : Hid (wr.alloc (.cells #[.int .i64 x.i, .string x.p, .int .i64 x.k, .int .i64 x.f] 40) = W4) := hW4
      have hb4 : Below wr.heap.size wr W4 := by rw [← hW4]; exact (Below.refl _ _).alloc (Nat.le_refl _) _
      have HB4 : Hid (Below w1.heap.size w1 W4) := xtrans2 HB.out hb4
      have HO4 : Hid _ := owns_below HO.out hb4
      have HX4 : Hid (W4.heap[wr.heap.size]? = some (.cells #[.int .i64 x.i, .string x.p, .int .i64 x.k, .int .i64 x.f] 40 (0, 0))) := by show _ = _; rw [← hW4]; exact heap_alloc_new _ _
      have HQS : Hid (w1.heap.size ≤ wr.heap.size) := HB.out.size
      obtain ⟨q, hq⟩ : ∃ q, wr.heap.size = q := ⟨_, rfl⟩
      have HQ : Hid (wr.heap.size = q) := hq
      clear hx hh hW4 hb4 hq
      go_upto_region 6 with fail
      rw [HW4.out, HQ.out]
      rw [HQ.out] at HX4 HQS
      clear x0 x1 x2 x3 x4 p0
      obtain ⟨d0, d1, d2, d3⟩ := cells_4 HX4.out
      go_wp2_with fail
      refine (xclone_any x.p hxs _).mono ?_
      rintro e w5 ⟨rfl, hb5⟩
      have HB5 : Hid (Below w1.heap.size w1 w5) := xtrans2 HB4.out hb5
      have HO5 : Hid _ := owns_below HO4.out hb5
      have HX5 : Hid _ := kept_block hb5 HX4.out
      clear hb5 d0 d1 d2 d3
      obtain ⟨d0, d1, d2, d3⟩ := cells_4 HX5.out
      have fz := free_4 HX5.out
      obtain ⟨W6, hW6⟩ : ∃ z, w5.setCell ⟨q, 1, none⟩ (.string x.p) = z := ⟨_, rfl⟩
      have HW6 : Hid (w5.setCell ⟨q, 1, none⟩ (.string x.p) = W6) := hW6
      have HB6 : Hid (Below w1.heap.size w1 W6) := by show Below _ _ _; rw [← hW6]; exact HB5.out.setCell HQS.out _
      have HX6 : Hid (W6.heap[q]? = some (.cells #[.int .i64 x.i, .string x.p, .int .i64 x.k, .int .i64 x.f] 40 (0, 0))) := by show _ = _; rw [← hW6]; exact same_blk HX5.out rfl
      have HO6 : Hid (W6.ownsRow w1.heap.size 40 4 u5 ((m.take j).map He.wa).length (waCs ((m.take j).map He.wa))) := by
        show World.ownsRow _ _ _ _ _ _ _
        rw [← hW6]
        refine owns_chg HO5.out (Chg.set w5 ⟨q, 1, none⟩ (.string x.p)) (fun k hk e => ?_)
        have h1 := (HO.out.lt k hk).2
        have h2 := HQ.out
        have e' : k = q := e
        omega
      clear hW6
      go_upto_region 7 with fail
      rw [HW6.out]
      clear d0 d1 d2 d3 fz
      obtain ⟨d0, d1, d2, d3⟩ := cells_4 HX6.out
      go_wp2_with (first
        | (at_builtin; refine wpList_appW rfl _ _ rfl w1.heap.size u5 ((m.take j).map He.wa) rfl (owns_below HO6.out ((Below.refl _ _).alloc (Nat.le_refl _) _)) W6.heap.size x.wa rfl (heap_alloc_new _ _) (by rw [List.length_map, List.length_take]; omega) (by have := HB6.out.size; simp; omega) ?_
           intro v7 w7 ho7 hb7
           have HO7 : Hid _ := ho7
           have HB7 : Hid (Below w1.heap.size w1 w7) := (HB6.out.alloc HB6.out.size _).trans hb7
           clear ho7 hb7 d0 d1 d2 d3)
        | fail)
      go_roundw
      case rel =>
        refine ⟨j + 1, by go_num, by omega, ?_, HB7.out⟩
        show World.ownsRow _ _ _ _ _ _ _
        rw [HTN.out]
        exact HO7.out
      case measure => simp [intOf]; omega
    · obtain rfl : j = m.length := by omega
      have hge : ¬ ((m.length : Int) < (m.length : Int)) := by omega
      have HO' : Hid (wr.ownsRow w1.heap.size 40 4 u5 (m.map He.wa).length (waCs (m.map He.wa))) := by
        have := HO.out
        rw [List.take_length] at this
        exact this
      go_wp2_with fail
      go_ret
      refine ⟨_, rfl, ?_, HB.out⟩
      have h9 := HO'.out
      rw [List.length_map] at h9
      exact h9
set_option maxHeartbeats 3200000 in
theorem ofNil (w : World) (s : Int) :
    Calls Tryz.prog 14 #[.pointer none, .int .i64 s] w fun e w' => e = .returned (.slice none 0 0) ∧ w' = w := by
  go_enter Tryz.func14, Tryz.ntmps14
  go_wp2_with (first
    | (go_at_call 36; refine (of_nil w s).mono ?_; rintro e w1 ⟨rfl, rfl⟩)
    | fail)
  refine wp_loop_rounds 1 ?_
  rw [rounds_succ]
  go_wp2_with fail
  go_ret
  exact ⟨rfl, rfl⟩
end Go.Proofs.YtbblckcjedjbcaaGreatDoor
