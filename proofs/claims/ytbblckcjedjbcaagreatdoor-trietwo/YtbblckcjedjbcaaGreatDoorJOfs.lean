import Derived.Test.YtbblckcjedjbcaaGreatDoorJZero2
import Derived.Test.YtbblckcjedjbcaaGreatDoorXLaid
import Derived.Test.YtbblckcjedjbcaaGreatDoorXAtD
import Derived.Test.YtbblckcjedjbcaaGreatDoorXFit
import Derived.Test.YtbblckcjedjbcaaGreatDoorXBegins
namespace Go.Proofs.YtbblckcjedjbcaaGreatDoor.J
open Go.RowKit Go.Maps
set_option linter.unusedVariables false
set_option linter.unusedSimpArgs false

theorem Tryz.infoN : (Tryz.prog.info? 139).map (fun i => (i.zero, i.size, i.bytes)) = some (some (.agg #[.int .i64 0, .int .i64 0, .string ⟨#[]⟩, .int .i64 0, .int .i64 0]), 5, 48) := by kernel_rfl
theorem wpList_appN {w : World} {ops : Array Oper} {rest : List Oper} {op : Oper} {act : Act} {Q : Exit → Act → World → Prop} (hgd : op.guard = none) (s x : Operand)
    (ho : op.op = .call { callee := .builtin .append, args := #[s, x], argTypes := #[67, 67] }) (base : Nat) (v : Value) (L : List On) (hs : act.eval s = v) (hown : w.ownsRow base 139 5 v L.length (onCs L))
    (gx : Nat) (o : On) (hx : act.eval x = .slice (some ⟨gx, 0, none⟩) 1 1) (hby : w.heap[gx]? = some (.cells #[.int .i64 o.s, .int .i64 o.i, .string o.p, .int .i64 o.k, .int .i64 o.f] 139 (0, 0))) (hlen : L.length + 1 ≤ 1000000) (hB : base ≤ w.heap.size)
    (h : ∀ v' w', w'.ownsRow base 139 5 v' (L ++ [o]).length (onCs (L ++ [o])) → Below base w w' → wpList Tryz.prog ops Q rest (act.put op.dst v') w') : wpList Tryz.prog ops Q (op :: rest) act w := by
  obtain ⟨i0, hi, hz0, hz1, hz2⟩ := info_parts Tryz.infoN
  refine wpList_append_own_at _ hgd s x 67 ho base 139 i0 _ 5 48 Tryz.underlying67 hi hz0 hz1 hz2 rfl (by decide) v L.length (onCs L) hs hown ⟨gx, 0, none⟩ 1 1 o.cs hx rfl (fun j u hu => ?_) (onCs_one o) (by unfold maxLen; omega) (by omega) hB ?_
  · rw [addr_add, Nat.zero_add]
    have hj : j < 5 := (List.getElem?_eq_some_iff.1 hu).1
    simp only [World.cell?, hby]
    match j, hj with
    | 0, _ => simpa using hu
    | 1, _ => simpa using hu
    | 2, _ => simpa using hu
    | 3, _ => simpa using hu
    | 4, _ => simpa using hu
  · intro v' w' ho' hg' _ hat'
    refine h v' w' ?_ ((Chg.grown hg').below hB (fun k hk e => (hown.lt k e).1))
    have e : onCs (L ++ [o]) = onCs L ++ o.cs := by rw [onCs_append]; simp [onCs]
    rw [List.length_append, e]
    exact ho'
/-- The document's list in memory. -/
def Ns (w : World) (v : Value) (L : List On) : Prop := w.ownsRow 0 139 5 v L.length (onCs L)
abbrev xVal (v : Value) : Value := .agg #[.bool false, v]
theorem Ns.below {w w' : World} {v : Value} {L : List On} (h : Ns w v L) (hb : Below w.heap.size w w') : Ns w' v L := owns_below h hb
theorem Ns.form {w : World} {v : Value} {L : List On} (h : Ns w v L) : ∃ a c, v = .slice a L.length c := owns_shape h
theorem Ns.nil (w : World) : Ns w (.slice none 0 0) [] := World.ownsRow_nil _ _ _ _
theorem Ns.at {w : World} {a : Option Addr} {n c : Nat} {L : List On} (h : Ns w (.slice a n c) L) (hn : L.length = n) {j : Nat} {x : On} (hx : L[j]? = some x) : ∃ g, a = some ⟨g, 0, none⟩ ∧ w.cell? ⟨g, j * 5, none⟩ = some (.int .i64 x.s) ∧ w.cell? ⟨g, j * 5 + 1, none⟩ = some (.int .i64 x.i) ∧ w.cell? ⟨g, j * 5 + 2, none⟩ = some (.string x.p) ∧ w.cell? ⟨g, j * 5 + 3, none⟩ = some (.int .i64 x.k) ∧ w.cell? ⟨g, j * 5 + 4, none⟩ = some (.int .i64 x.f) := by
  have hl : j < L.length := (List.getElem?_eq_some_iff.1 hx).1
  unfold Ns at h
  rw [hn] at h
  obtain ⟨g, rfl⟩ := row_addr h (by omega)
  exact ⟨g, rfl, cell_n h (onCs_at L j 0 x _ hx rfl), cell_n h (onCs_at L j 1 x _ hx rfl), cell_n h (onCs_at L j 2 x _ hx rfl), cell_n h (onCs_at L j 3 x _ hx rfl), cell_n h (onCs_at L j 4 x _ hx rfl)⟩
/-- What find says. -/
def FndC (L : List On) (s i : Int) (r : Int) : Prop := (hasO L s i = false ∧ r = -1) ∨ (∃ (q : Nat) (x : On), r = (q : Nat) ∧ L[q]? = some x ∧ x.s = s ∧ x.i = i)
set_option maxHeartbeats 6400000 in
theorem find9 (a : Option Addr) (c n : Nat) (L : List On) (s i : Int) (w : World) (hL : Ns w (.slice a n c) L) (hn : L.length = n) (hl : n ≤ 100000) :
    Calls Tryz.prog 76 #[xVal (.slice a n c), .int .i64 s, .int .i64 i] w fun e w' => ∃ r : Int, e = .returned (.int .i64 r) ∧ FndC L s i r ∧ Below w.heap.size w w' := by
  obtain ⟨w0, hw0⟩ : ∃ w0, w.alloc (.cells #[.bool false, .slice a n c] 69) = w0 := ⟨_, rfl⟩
  have HB0 : Hid (Below w.heap.size w w0) := by rw [← hw0]; exact (Below.refl _ _).alloc (Nat.le_refl _) _
  obtain ⟨c0, c1⟩ := cells_2 (show w0.heap[w.heap.size]? = some (.cells #[.bool false, .slice a n c] 69 (0, 0)) by rw [← hw0]; exact heap_alloc_new _ _)
  have HL : Hid (Ns w0 (.slice a n c) L) := hL.below HB0.out
  have HN : Hid (L.length = n) := hn
  have HW : Hid (w.alloc (.cells #[.bool false, .slice a n c] 69) = w0) := hw0
  clear hL hw0 hn
  go_enter Tryz.func76, Tryz.ntmps76
  go_wp2_with fail
  rw [HW.out]
  go_loopw [7] (fun iv wr => ∃ q : Nat, iv = .int .i64 q ∧ q ≤ n ∧ wr = w0 ∧ Hid (∀ (j : Nat) (x : On), j < q → L[j]? = some x → ¬ (x.s = s ∧ x.i = i))) (fun iv _ => n - (intOf iv).toNat)
  case atStart => exact ⟨0, rfl, Nat.zero_le _, rfl, fun j x h => (by omega)⟩
  case round =>
    obtain ⟨q, rfl, hq, rfl, HNO⟩ := hrel
    by_cases hlt : q < n
    · have hlt' : (q : Int) < (n : Int) := by omega
      obtain ⟨x, hx⟩ : ∃ x, L[q]? = some x := ⟨L[q]'(by rw [HN.out]; exact hlt), List.getElem?_eq_getElem _⟩
      obtain ⟨g, rfl, n0, n1, n2, n3, n4⟩ := HL.out.at HN.out hx
      have HX : Hid (L[q]? = some x) := hx
      clear hx
      by_cases hs : x.s = s
      · by_cases hi : x.i = i
        · go_wp2_with fail
          go_ret
          exact ⟨_, rfl, .inr ⟨q, x, rfl, HX.out, hs, hi⟩, HB0.out⟩
        · go_wp2_with fail
          go_roundw
          case rel =>
            refine ⟨q + 1, by go_num, by omega, trivial, fun j y hj hy => ?_⟩
            by_cases e : j = q
            · subst e
              rw [HX.out] at hy
              cases hy
              exact fun h => hi h.2
            · exact HNO.out j y (by omega) hy
          case measure => simp [intOf]; omega
      · go_wp2_with fail
        go_roundw
        case rel =>
          refine ⟨q + 1, by go_num, by omega, trivial, fun j y hj hy => ?_⟩
          by_cases e : j = q
          · subst e
            rw [HX.out] at hy
            cases hy
            exact fun h => hs h.1
          · exact HNO.out j y (by omega) hy
        case measure => simp [intOf]; omega
    · have hge : ¬ (q : Int) < (n : Int) := by omega
      go_wp2_with fail
      go_ret
      refine ⟨_, rfl, .inl ⟨?_, rfl⟩, HB0.out⟩
      unfold hasO
      rw [List.any_eq_false]
      intro x hx
      obtain ⟨j, hj⟩ := List.getElem?_of_mem hx
      have hjl : j < L.length := (List.getElem?_eq_some_iff.1 hj).1
      have := HNO.out j x (by have := HN.out; omega) hj
      simpa using this
end Go.Proofs.YtbblckcjedjbcaaGreatDoor.J
namespace Go.Proofs.YtbblckcjedjbcaaGreatDoor.J
open Go.RowKit Go.Maps
set_option linter.unusedVariables false
set_option linter.unusedSimpArgs false

theorem take_filter {α : Type} {l : List α} {j : Nat} {x : α} (h : l[j]? = some x) (f : α → Bool) : (l.take (j + 1)).filter f = (l.take j).filter f ++ if f x then [x] else [] := by
  rw [List.take_add_one, h, List.filter_append]
  simp [List.filter]
  cases f x <;> rfl
set_option maxHeartbeats 6400000 in
set_option maxRecDepth 100000 in
theorem of9 (a : Option Addr) (c n : Nat) (L : List On) (s : Int) (w : World) (hL : Ns w (.slice a n c) L) (hn : L.length = n) (hl : n ≤ 100000) :
    Calls Tryz.prog 53 #[xVal (.slice a n c), .int .i64 s] w fun e w' => ∃ v, e = .returned v ∧ w'.ownsRow w.heap.size 40 4 v (wasO L s).length (waCs (wasO L s)) ∧ Below w.heap.size w w' := by
  obtain ⟨w0, hw0⟩ : ∃ w0, w.alloc (.cells #[.bool false, .slice a n c] 69) = w0 := ⟨_, rfl⟩
  have HB0 : Hid (Below w.heap.size w w0) := by rw [← hw0]; exact (Below.refl _ _).alloc (Nat.le_refl _) _
  have HA0 : Hid (w0.heap[w.heap.size]? = some (.cells #[.bool false, .slice a n c] 69 (0, 0))) := by show _ = _; rw [← hw0]; exact heap_alloc_new _ _
  obtain ⟨c0, c1⟩ := cells_2 HA0.out
  have HL : Hid (Ns w0 (.slice a n c) L) := hL.below HB0.out
  have HN : Hid (L.length = n) := hn
  have HW : Hid (w.alloc (.cells #[.bool false, .slice a n c] 69) = w0) := hw0
  clear hL hw0 hn
  go_enter Tryz.func53, Tryz.ntmps53
  go_wp2_with fail
  rw [HW.out]
  clear c0 c1
  go_loopw [5, 6] (fun lv iv wr => ∃ q : Nat, iv = .int .i64 q ∧ q ≤ n ∧ Hid (Below w0.heap.size w0 wr) ∧ Hid (wr.ownsRow w0.heap.size 40 4 lv (((L.take q).filter (fun o => decide (o.s = s))).map On.wa).length (waCs (((L.take q).filter (fun o => decide (o.s = s))).map On.wa)))) (fun _ iv _ => n - (intOf iv).toNat)
  case atStart => exact ⟨0, rfl, Nat.zero_le _, Below.refl _ _, World.ownsRow_nil _ _ _ _⟩
  case round =>
    obtain ⟨q, rfl, hq, HB, HO⟩ := hrel
    obtain ⟨c0, c1⟩ := cells_2 (kept_block HB.out HA0.out)
    by_cases hlt : q < n
    · have hlt' : (q : Int) < (n : Int) := by omega
      obtain ⟨x, hx⟩ : ∃ x, L[q]? = some x := ⟨L[q]'(by rw [HN.out]; exact hlt), List.getElem?_eq_getElem _⟩
      obtain ⟨g, rfl, n0, n1, n2, n3, n4⟩ := (HL.out.below HB.out).at HN.out hx
      have HT := take_filter hx (fun o => decide (o.s = s))
      have HLE : Hid (((L.take q).filter (fun o => decide (o.s = s))).length ≤ 100000) := by
        have h1 := List.length_filter_le (fun o => decide (o.s = s)) (L.take q)
        rw [List.length_take] at h1
        show _ ≤ _
        omega
      by_cases hs : x.s = s
      · rw [if_pos (by simpa using hs)] at HT
        have HT : Hid _ := HT
        clear hx
        go_wp2_with (first
          | (at_builtin; refine wpList_appW rfl _ _ rfl w0.heap.size u5 (((L.take q).filter (fun o => decide (o.s = s))).map On.wa) rfl (owns_below HO.out ((Below.refl _ _).alloc (Nat.le_refl _) _)) wr.heap.size x.wa rfl (heap_alloc_new _ _) (by rw [List.length_map]; have := HLE.out; omega) (by have := HB.out.size; simp; omega) ?_
             intro v7 w7 ho7 hb7
             have HO7 : Hid _ := ho7
             have HB7 : Hid (Below w0.heap.size w0 w7) := (HB.out.alloc HB.out.size _).trans hb7
             clear ho7 hb7 n0 n1 n2 n3 n4 c0 c1)
          | fail)
        go_roundw
        case rel =>
          refine ⟨q + 1, by go_num, by omega, HB7, ?_⟩
          show World.ownsRow _ _ _ _ _ _ _
          rw [HT.out, List.map_append]
          exact HO7.out
        case measure => simp [intOf]; omega
      · rw [if_neg (by simpa using hs), List.append_nil] at HT
        have HT : Hid _ := HT
        clear hx
        go_wp2_with fail
        go_roundw
        case rel =>
          refine ⟨q + 1, by go_num, by omega, HB, ?_⟩
          show World.ownsRow _ _ _ _ _ _ _
          rw [HT.out]
          exact HO.out
        case measure => simp [intOf]; omega
    · have hge : ¬ (q : Int) < (n : Int) := by omega
      have HE : Hid ((L.take q).filter (fun o => decide (o.s = s)) = ofO L s) := by
        show _ = _
        rw [List.take_of_length_le (by rw [HN.out]; omega)]
        rfl
      go_wp2_with fail
      go_ret
      refine ⟨_, rfl, ?_, xtrans2 HB0.out HB.out⟩
      have h1 := HO.out
      rw [HE.out] at h1
      exact owns_lo h1 HB0.out.size
theorem owns_fill {W : World} {X B e s n : Nat} {v x y : Value} {xs : List Value} (h : W.ownsRow B e s v n xs) (hX : X < B) : ((W.setCell ⟨X, 0, none⟩ x).setCell ⟨X, 1, none⟩ y).ownsRow B e s v n xs := by
  refine owns_same h (fun k hk => ?_)
  have h1 := (h.lt k hk).1
  rw [Below.heap_setCell _ _ _ _ (by intro e; have : k = X := e; omega), Below.heap_setCell _ _ _ _ (by intro e; have : k = X := e; omega)]
theorem parts_len {α : Type} (l : List α) (f : α → Bool) : l.length = (l.filter (fun x => !f x)).length + (l.filter f).length := by
  induction l with
  | nil => rfl
  | cons x r ih => cases h : f x <;> simp [List.filter, h] <;> omega
set_option maxHeartbeats 6400000 in
set_option maxRecDepth 100000 in
theorem forget9 (a : Option Addr) (c n : Nat) (L : List On) (s : Int) (w : World) (hL : Ns w (.slice a n c) L) (hn : L.length = n) (hl : n ≤ 100000) :
    Calls Tryz.prog 51 #[xVal (.slice a n c), .int .i64 s] w fun e w' => ∃ v, e = .returned (.tuple #[xVal v, .int .i64 ((ofO L s).length : Nat)]) ∧ Ns w' v (forO L s) ∧ (∀ k, v.ownBlock = some k → (Value.slice a n c).ownBlock = some k ∨ w.heap.size ≤ k) ∧ Below w.heap.size w w' := by
  obtain ⟨w0, hw0⟩ : ∃ w0, w.alloc (.cells #[.bool false, .slice a n c] 69) = w0 := ⟨_, rfl⟩
  have HB0 : Hid (Below w.heap.size w w0) := by rw [← hw0]; exact (Below.refl _ _).alloc (Nat.le_refl _) _
  have hsz : w0.heap.size = w.heap.size + 1 := by rw [← hw0]; simp
  obtain ⟨w1, hw1⟩ : ∃ w1, w0.alloc (.cells #[.bool false, .slice none 0 0] 69) = w1 := ⟨_, rfl⟩
  have HB1 : Hid (Below w.heap.size w w1) := by rw [← hw1]; exact HB0.out.alloc HB0.out.size _
  have HA1 : Hid (w1.heap[w.heap.size]? = some (.cells #[.bool false, .slice a n c] 69 (0, 0))) := by show _ = _; rw [← hw1, ← hw0]; exact new_old (heap_alloc_new _ _) _
  have HR1 : Hid (w1.heap[w.heap.size + 1]? = some (.cells #[.bool false, .slice none 0 0] 69 (0, 0))) := by show _ = _; rw [← hw1, ← hsz]; exact heap_alloc_new _ _
  have HS1 : Hid (w1.heap.size = w.heap.size + 1 + 1) := by show _ = _; rw [← hw1, World.size_alloc, hsz]
  obtain ⟨c0, c1⟩ := cells_2 HA1.out
  have HL : Hid (Ns w1 (.slice a n c) L) := hL.below HB1.out
  have HN : Hid (L.length = n) := hn
  have HW : Hid ((w.alloc (.cells #[.bool false, .slice a n c] 69)).alloc (.cells #[.bool false, .slice none 0 0] 69) = w1) := by show _ = _; rw [hw0, hw1]
  clear hL hn hw1 hw0 hsz
  go_enter Tryz.func51, Tryz.ntmps51
  go_wp2_with fail
  rw [HW.out]
  clear c0 c1
  go_loopw [6, 7] (fun lv iv wr => ∃ q : Nat, iv = .int .i64 q ∧ q ≤ n ∧ Hid (Below w1.heap.size w1 wr) ∧ Hid (wr.ownsRow w1.heap.size 139 5 lv ((L.take q).filter (fun o => !decide (o.s = s))).length (onCs ((L.take q).filter (fun o => !decide (o.s = s)))))) (fun _ iv _ => n - (intOf iv).toNat)
  case atStart => exact ⟨0, rfl, Nat.zero_le _, Below.refl _ _, World.ownsRow_nil _ _ _ _⟩
  case round =>
    obtain ⟨q, rfl, hq, HB, HO⟩ := hrel
    obtain ⟨c0, c1⟩ := cells_2 (kept_block HB.out HA1.out)
    by_cases hlt : q < n
    · have hlt' : (q : Int) < (n : Int) := by omega
      obtain ⟨x, hx⟩ : ∃ x, L[q]? = some x := ⟨L[q]'(by rw [HN.out]; exact hlt), List.getElem?_eq_getElem _⟩
      obtain ⟨g, rfl, n0, n1, n2, n3, n4⟩ := (HL.out.below HB.out).at HN.out hx
      have HT := take_filter hx (fun o => !decide (o.s = s))
      have HLE : Hid (((L.take q).filter (fun o => !decide (o.s = s))).length ≤ 100000) := by
        have h1 := List.length_filter_le (fun o => !decide (o.s = s)) (L.take q)
        rw [List.length_take] at h1
        show _ ≤ _
        omega
      by_cases hs : x.s = s
      · rw [if_neg (by simpa using hs), List.append_nil] at HT
        have HT : Hid _ := HT
        clear hx
        go_wp2_with fail
        go_roundw
        case rel =>
          refine ⟨q + 1, by go_num, by omega, HB, ?_⟩
          show World.ownsRow _ _ _ _ _ _ _
          rw [HT.out]
          exact HO.out
        case measure => simp [intOf]; omega
      · rw [if_pos (by simpa using hs)] at HT
        have HT : Hid _ := HT
        clear hx
        go_wp2_with (first
          | (at_builtin; refine wpList_appN rfl _ _ rfl w1.heap.size u6 ((L.take q).filter (fun o => !decide (o.s = s))) rfl (owns_below HO.out ((Below.refl _ _).alloc (Nat.le_refl _) _)) wr.heap.size x rfl (heap_alloc_new _ _) (by have := HLE.out; omega) (by have := HB.out.size; simp; omega) ?_
             intro v7 w7 ho7 hb7
             have HO7 : Hid _ := ho7
             have HB7 : Hid (Below w1.heap.size w1 w7) := (HB.out.alloc HB.out.size _).trans hb7
             clear ho7 hb7 n0 n1 n2 n3 n4 c0 c1)
          | fail)
        go_roundw
        case rel =>
          refine ⟨q + 1, by go_num, by omega, HB7, ?_⟩
          show World.ownsRow _ _ _ _ _ _ _
          rw [HT.out]
          exact HO7.out
        case measure => simp [intOf]; omega
    · have hge : ¬ (q : Int) < (n : Int) := by omega
      have HE : Hid ((L.take q).filter (fun o => !decide (o.s = s)) = forO L s) := by
        show _ = _
        rw [List.take_of_length_le (by rw [HN.out]; omega)]
        rfl
      have ho := HO.out
      rw [HE.out] at ho
      obtain ⟨a6, c6, rfl⟩ := owns_shape ho
      have HO6 : Hid (wr.ownsRow w1.heap.size 139 5 (.slice a6 (forO L s).length c6) (forO L s).length (onCs (forO L s))) := ho
      have HCT : Hid (n = (forO L s).length + (ofO L s).length) := by
        show _ = _
        rw [← HN.out]
        exact parts_len L (fun o => decide (o.s = s))
      have hR := kept_block HB.out HR1.out
      obtain ⟨d0, d1⟩ := cells_2 hR
      have fd := free_of hR
      have HR : Hid (wr.heap[w.heap.size + 1]? = some (.cells #[.bool false, .slice none 0 0] 69 (0, 0))) := hR
      have hfl : (forO L s).length ≤ n := by have := HCT.out; omega
      clear ho hR
      have hcnt : (n : Int) - ((forO L s).length : Int) = ((ofO L s).length : Int) := by have := HCT.out; omega
      go_wp2_with fail
      exact bodyPost_ret (results_cell_tmp rfl _ _ (w.heap.size + 1) 69 _ (0, 0) _ _ rfl rfl (fill2 HR.out) Tryz.underlying69 rfl (by kernel_rfl)) rfl ⟨_, rfl, owns_lo (owns_fill HO6.out (by have := HS1.out; omega)) (Nat.zero_le _), fun k hk => .inr (by have h1 := (row_block HO6.out k hk).1; have := HS1.out; omega), ((xtrans2 HB1.out HB.out).setCell (Nat.le_succ _) _).setCell (Nat.le_succ _) _⟩

theorem befO_irr (o : On) : befO o o = false := bef_irr _ _
theorem ord_at {L : List On} (hL : OrdO L) {j q : Nat} {x y : On} (hj : L[j]? = some x) (hq : L[q]? = some y) (hs : x.s = y.s) (hi : x.i = y.i) : j = q := by
  obtain ⟨h1, rfl⟩ := List.getElem?_eq_some_iff.1 hj
  obtain ⟨h2, rfl⟩ := List.getElem?_eq_some_iff.1 hq
  have hp := List.pairwise_iff_getElem.1 hL
  rcases Nat.lt_trichotomy j q with h | h | h
  · have := hp j q h1 h2 h
    unfold befO at this
    rw [hs, hi, bef_irr] at this
    cases this
  · exact h
  · have := hp q j h2 h1 h
    unfold befO at this
    rw [hs, hi, bef_irr] at this
    cases this
set_option maxHeartbeats 6400000 in
set_option maxRecDepth 100000 in
theorem drop9 (a : Option Addr) (c n : Nat) (L : List On) (s i : Int) (w : World) (hO : OrdO L) (hL : Ns w (.slice a n c) L) (hn : L.length = n) (hl : n ≤ 100000) :
    Calls Tryz.prog 50 #[xVal (.slice a n c), .int .i64 s, .int .i64 i] w fun e w' => ∃ v, e = .returned (.tuple #[xVal v, .int .i64 (dropC L s i)]) ∧ Ns w' v (delO L s i) ∧ (∀ k, v.ownBlock = some k → (Value.slice a n c).ownBlock = some k ∨ w.heap.size ≤ k) ∧ Below w.heap.size w w' := by
  obtain ⟨w0, hw0⟩ : ∃ w0, w.alloc (.cells #[.bool false, .slice a n c] 69) = w0 := ⟨_, rfl⟩
  have HB0 : Hid (Below w.heap.size w w0) := by rw [← hw0]; exact (Below.refl _ _).alloc (Nat.le_refl _) _
  have hsz : w0.heap.size = w.heap.size + 1 := by rw [← hw0]; simp
  obtain ⟨wb, hw1⟩ : ∃ w1, w0.alloc (.cells #[.bool false, .slice none 0 0] 69) = w1 := ⟨_, rfl⟩
  have HBb : Hid (Below w.heap.size w wb) := by rw [← hw1]; exact HB0.out.alloc HB0.out.size _
  have HAb : Hid (wb.heap[w.heap.size]? = some (.cells #[.bool false, .slice a n c] 69 (0, 0))) := by show _ = _; rw [← hw1, ← hw0]; exact new_old (heap_alloc_new _ _) _
  have HRb : Hid (wb.heap[w.heap.size + 1]? = some (.cells #[.bool false, .slice none 0 0] 69 (0, 0))) := by show _ = _; rw [← hw1, ← hsz]; exact heap_alloc_new _ _
  have HSb : Hid (wb.heap.size = w.heap.size + 1 + 1) := by show _ = _; rw [← hw1, World.size_alloc, hsz]
  obtain ⟨c0, c1⟩ := cells_2 HAb.out
  have HLb : Hid (Ns wb (.slice a n c) L) := hL.below HBb.out
  have HLw : Hid (Ns w (.slice a n c) L) := hL
  have HN : Hid (L.length = n) := hn
  have HOR : Hid (OrdO L) := hO
  have HF : Hid _ := find9 a c n L s i wb HLb.out hn hl
  have HW : Hid ((w.alloc (.cells #[.bool false, .slice a n c] 69)).alloc (.cells #[.bool false, .slice none 0 0] 69) = wb) := by show _ = _; rw [hw0, hw1]
  have hww : (w.alloc (.cells #[.bool false, .slice a n c] 69)).alloc (.cells #[.bool false, .slice none 0 0] 69) = wb := HW.out
  clear hL hn hw1 hw0 hsz hO
  go_enter Tryz.func50, Tryz.ntmps50
  rw [← hww] at c0 c1
  clear hww
  go_upto_region 2 with (first
    | (go_at_call 76; rw [HW.out]; refine Calls.mono HF.out ?_; rintro e w1 ⟨r, rfl, hr, hb1⟩
       have HRC : Hid (FndC L s i r) := hr
       have HBX : Hid (Below wb.heap.size wb w1) := hb1
       clear c0 c1 hb1 hr)
    | fail)
  have HA1 : Hid (w1.heap[w.heap.size]? = some (.cells #[.bool false, .slice a n c] 69 (0, 0))) := kept_block HBX.out HAb.out
  have HR1 : Hid (w1.heap[w.heap.size + 1]? = some (.cells #[.bool false, .slice none 0 0] 69 (0, 0))) := kept_block HBX.out HRb.out
  have HS1 : Hid (w.heap.size + 1 + 1 ≤ w1.heap.size) := by show _ ≤ _; have := HBX.out.size; have := HSb.out; omega
  have HL : Hid (Ns w1 (.slice a n c) L) := HLb.out.below HBX.out
  have HB1 : Hid (Below w.heap.size w w1) := xtrans2 HBb.out HBX.out
  rcases HRC.out with ⟨hno, hr⟩ | ⟨q0, x0, hr, hx0, hs0, hi0⟩
  · subst hr
    obtain ⟨c0, c1⟩ := cells_2 HA1.out
    obtain ⟨d0, d1⟩ := cells_2 HR1.out
    have fd := free_of HR1.out
    have HNO : Hid (hasO L s i = false) := hno
    clear hno
    go_wp2_with fail
    have hdel : delO L s i = L := by
      unfold delO
      refine List.filter_eq_self.2 (fun x hx => ?_)
      have h9 := HNO.out
      unfold hasO at h9
      have := List.any_eq_false.1 h9 x hx
      by_cases e : x.s = s
      · simp [e] at this ⊢
        exact this
      · simp [e]
    have hcc : dropC L s i = 90 := by unfold dropC; rw [HNO.out]; rfl
    rw [hdel, hcc]
    exact bodyPost_ret (results_cell_tmp rfl _ _ (w.heap.size + 1) 69 _ (0, 0) _ _ rfl rfl (fill2 HR1.out) Tryz.underlying69 rfl (by kernel_rfl)) rfl ⟨_, rfl, HLw.out.below (((HB1.out).setCell (Nat.le_succ _) _).setCell (Nat.le_succ _) _), fun k hk => .inl hk, ((HB1.out).setCell (Nat.le_succ _) _).setCell (Nat.le_succ _) _⟩
  · subst hr
    have hq0 : ¬ (q0 : Int) < 0 := by omega
    have HX0 : Hid (L[q0]? = some x0) := hx0
    have HS0 : Hid (x0.s = s ∧ x0.i = i) := ⟨hs0, hi0⟩
    have hcc : dropC L s i = 0 := by
      have h9 : hasO L s i = true := by
        unfold hasO
        rw [List.any_eq_true]
        exact ⟨x0, List.mem_of_getElem? hx0, by simp [hs0, hi0]⟩
      unfold dropC
      rw [h9]
      rfl
    have HCC : Hid (dropC L s i = 0) := hcc
    clear hx0 hs0 hi0 hcc
    obtain ⟨c0, c1⟩ := cells_2 HA1.out
    go_wp2_with fail
    clear c0 c1
    go_loopw [9, 10] (fun lv iv wr => ∃ q : Nat, iv = .int .i64 q ∧ q ≤ n ∧ Hid (Below w1.heap.size w1 wr) ∧ Hid (wr.ownsRow w1.heap.size 139 5 lv ((L.take q).filter (fun x => !(decide (x.s = s) && decide (x.i = i)))).length (onCs ((L.take q).filter (fun x => !(decide (x.s = s) && decide (x.i = i))))))) (fun _ iv _ => n - (intOf iv).toNat)
    case atStart => exact ⟨0, rfl, Nat.zero_le _, Below.refl _ _, World.ownsRow_nil _ _ _ _⟩
    case round =>
      obtain ⟨q, rfl, hq, HB, HO⟩ := hrel
      obtain ⟨c0, c1⟩ := cells_2 (kept_block HB.out HA1.out)
      by_cases hlt : q < n
      · have hlt' : (q : Int) < (n : Int) := by omega
        obtain ⟨x, hx⟩ : ∃ x, L[q]? = some x := ⟨L[q]'(by rw [HN.out]; exact hlt), List.getElem?_eq_getElem _⟩
        obtain ⟨g, rfl, n0, n1, n2, n3, n4⟩ := (HL.out.below HB.out).at HN.out hx
        have HT := take_filter hx (fun x => !(decide (x.s = s) && decide (x.i = i)))
        have HLE : Hid (((L.take q).filter (fun x => !(decide (x.s = s) && decide (x.i = i)))).length ≤ 100000) := by
          have h1 := List.length_filter_le (fun x : On => !(decide (x.s = s) && decide (x.i = i))) (L.take q)
          rw [List.length_take] at h1
          show _ ≤ _
          omega
        by_cases he : q = q0
        · have hei : (q : Int) = (q0 : Int) := by omega
          have hxx : x = x0 := by
            subst he
            have := HX0.out
            rw [hx] at this
            exact Option.some.inj this
          rw [if_neg (by rw [hxx, HS0.out.1, HS0.out.2]; simp), List.append_nil] at HT
          have HT : Hid _ := HT
          clear hx hxx
          go_wp2_with fail
          go_roundw
          case rel =>
            refine ⟨q + 1, by go_num, by omega, HB, ?_⟩
            show World.ownsRow _ _ _ _ _ _ _
            rw [HT.out]
            exact HO.out
          case measure => simp [intOf]; omega
        · have hei : ¬ (q : Int) = (q0 : Int) := by omega
          have hne : ¬ (x.s = s ∧ x.i = i) := fun h => he (ord_at HOR.out hx HX0.out (by rw [h.1, HS0.out.1]) (by rw [h.2, HS0.out.2]))
          rw [if_pos (by
            by_cases e : x.s = s
            · have : ¬ x.i = i := fun e2 => hne ⟨e, e2⟩
              simp [this]
            · simp [e])] at HT
          have HT : Hid _ := HT
          clear hx hne
          go_wp2_with (first
            | (at_builtin; refine wpList_appN rfl _ _ rfl w1.heap.size u9 ((L.take q).filter (fun x => !(decide (x.s = s) && decide (x.i = i)))) rfl (owns_below HO.out ((Below.refl _ _).alloc (Nat.le_refl _) _)) wr.heap.size x rfl (heap_alloc_new _ _) (by have := HLE.out; omega) (by have := HB.out.size; simp; omega) ?_
               intro v7 w7 ho7 hb7
               have HO7 : Hid _ := ho7
               have HB7 : Hid (Below w1.heap.size w1 w7) := (HB.out.alloc HB.out.size _).trans hb7
               clear ho7 hb7 n0 n1 n2 n3 n4 c0 c1)
            | fail)
          go_roundw
          case rel =>
            refine ⟨q + 1, by go_num, by omega, HB7, ?_⟩
            show World.ownsRow _ _ _ _ _ _ _
            rw [HT.out]
            exact HO7.out
          case measure => simp [intOf]; omega
      · have hge : ¬ (q : Int) < (n : Int) := by omega
        have HE : Hid ((L.take q).filter (fun x => !(decide (x.s = s) && decide (x.i = i))) = delO L s i) := by
          show _ = _
          rw [List.take_of_length_le (by rw [HN.out]; omega)]
          rfl
        have ho := HO.out
        rw [HE.out] at ho
        obtain ⟨a6, c6, rfl⟩ := owns_shape ho
        have HO6 : Hid (wr.ownsRow w1.heap.size 139 5 (.slice a6 (delO L s i).length c6) (delO L s i).length (onCs (delO L s i))) := ho
        have hR := kept_block HB.out HR1.out
        obtain ⟨d0, d1⟩ := cells_2 hR
        have fd := free_of hR
        have HR : Hid (wr.heap[w.heap.size + 1]? = some (.cells #[.bool false, .slice none 0 0] 69 (0, 0))) := hR
        clear ho hR
        go_wp2_with fail
        exact bodyPost_ret (results_cell_tmp rfl _ _ (w.heap.size + 1) 69 _ (0, 0) _ _ rfl rfl (fill2 HR.out) Tryz.underlying69 rfl (by kernel_rfl)) rfl ⟨_, by rw [HCC.out]; rfl, owns_lo (owns_fill HO6.out (by have := HS1.out; omega)) (Nat.zero_le _), fun k hk => .inr (by have h1 := (row_block HO6.out k hk).1; have := HS1.out; omega), ((xtrans2 HB1.out HB.out).setCell (Nat.le_succ _) _).setCell (Nat.le_succ _) _⟩
end Go.Proofs.YtbblckcjedjbcaaGreatDoor.J
