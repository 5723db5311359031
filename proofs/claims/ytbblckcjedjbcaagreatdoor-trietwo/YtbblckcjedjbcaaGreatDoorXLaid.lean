/-
  heraldlaw9: laid.
-/
import Derived.Test.YtbblckcjedjbcaaGreatDoorXBegins
namespace Go.Proofs.YtbblckcjedjbcaaGreatDoor
open Go.RowKit Go.Maps
set_option linter.unusedVariables false
set_option linter.unusedSimpArgs false

abbrev On.cs (o : On) : List Value := [.int .i64 o.s, .int .i64 o.i, .string o.p, .int .i64 o.k, .int .i64 o.f]
def onCs (L : List On) : List Value := L.flatMap On.cs
theorem onCs_len (L : List On) : (onCs L).length = L.length * 5 := by
  induction L with
  | nil => rfl
  | cons o r ih =>
    have e : onCs (o :: r) = o.cs ++ onCs r := rfl
    rw [e, List.length_append, ih, List.length_cons]
    simp only [List.length_cons, List.length_nil]
    omega
theorem onCs_append (A B : List On) : onCs (A ++ B) = onCs A ++ onCs B := by simp [onCs]
theorem onCs_at (L : List On) (j t : Nat) (o : On) (v : Value) (h : L[j]? = some o) (hv : o.cs[t]? = some v) : (onCs L)[j * 5 + t]? = some v := by
  induction L generalizing j with
  | nil => simp at h
  | cons a r ih =>
    have e : onCs (a :: r) = a.cs ++ onCs r := rfl
    have ht : t < 5 := (List.getElem?_eq_some_iff.1 hv).1
    rw [e]
    cases j with
    | zero =>
      have : a = o := by simpa using h
      subst this
      rw [Nat.zero_mul, Nat.zero_add, List.getElem?_append_left (by simpa using ht)]
      exact hv
    | succ j =>
      have h1 := ih j (by simpa using h)
      rw [List.getElem?_append_right (by simp; omega)]
      have e2 : (j + 1) * 5 + t - a.cs.length = j * 5 + t := by simp; omega
      rw [e2]
      exact h1
/-- Watches anywhere in memory. -/
def OsAt (w : World) (a : Option Addr) (L : List On) : Prop := L = [] ∨ ∃ b o, a = some ⟨b, o, none⟩ ∧ b < w.heap.size ∧ ∀ (j t : Nat) (x : On) (v : Value), L[j]? = some x → x.cs[t]? = some v → w.cell? ⟨b, o + (j * 5 + t), none⟩ = some v
theorem OsAt.below {w w' : World} {a : Option Addr} {L : List On} (h : OsAt w a L) (hb : Below w.heap.size w w') : OsAt w' a L := by
  rcases h with h | ⟨b, o, e, hl, hc⟩
  · exact .inl h
  · exact .inr ⟨b, o, e, Nat.lt_of_lt_of_le hl hb.size, fun j t x v hx hv => by rw [hb.cell (p := ⟨b, o + (j * 5 + t), none⟩) hl]; exact hc j t x v hx hv⟩
theorem OsAt.at {w : World} {a : Option Addr} {L : List On} (h : OsAt w a L) {j : Nat} {x : On} (hx : L[j]? = some x) : ∃ b o, a = some ⟨b, o, none⟩ ∧ w.cell? ⟨b, o + j * 5, none⟩ = some (.int .i64 x.s) ∧ w.cell? ⟨b, o + j * 5 + 1, none⟩ = some (.int .i64 x.i) ∧ w.cell? ⟨b, o + j * 5 + 2, none⟩ = some (.string x.p) ∧ w.cell? ⟨b, o + j * 5 + 3, none⟩ = some (.int .i64 x.k) ∧ w.cell? ⟨b, o + j * 5 + 4, none⟩ = some (.int .i64 x.f) := by
  rcases h with rfl | ⟨b, o, e, hl, hc⟩
  · simp at hx
  · exact ⟨b, o, e, hc j 0 x _ hx rfl, hc j 1 x _ hx rfl, hc j 2 x _ hx rfl, hc j 3 x _ hx rfl, hc j 4 x _ hx rfl⟩
theorem Tryz.infoO : (Tryz.prog.info? 42).map (fun i => (i.zero, i.size, i.bytes)) = some (some (.agg #[.int .i64 0, .int .i64 0, .string ⟨#[]⟩, .int .i64 0, .int .i64 0]), 5, 48) := by kernel_rfl
theorem onCs_one (o : On) : ∀ v ∈ o.cs, v.oneCell' = true := by
  intro v hv
  simp at hv
  rcases hv with rfl | rfl | rfl | rfl | rfl <;> rfl
theorem wpList_appO {w : World} {ops : Array Oper} {rest : List Oper} {op : Oper} {act : Act} {Q : Exit → Act → World → Prop} (hgd : op.guard = none) (s x : Operand)
    (ho : op.op = .call { callee := .builtin .append, args := #[s, x], argTypes := #[22, 22] }) (base : Nat) (v : Value) (L : List On) (hs : act.eval s = v) (hown : w.ownsRow base 42 5 v L.length (onCs L))
    (gx : Nat) (o : On) (hx : act.eval x = .slice (some ⟨gx, 0, none⟩) 1 1) (hby : w.heap[gx]? = some (.cells #[.int .i64 o.s, .int .i64 o.i, .string o.p, .int .i64 o.k, .int .i64 o.f] 42 (0, 0))) (hlen : L.length + 1 ≤ 1000000) (hB : base ≤ w.heap.size)
    (h : ∀ v' w', w'.ownsRow base 42 5 v' (L ++ [o]).length (onCs (L ++ [o])) → w.grownBy w' v.ownBlock → (v'.ownBlock = v.ownBlock ∨ v'.ownBlock = some w.heap.size) → wpList Tryz.prog ops Q rest (act.put op.dst v') w') : wpList Tryz.prog ops Q (op :: rest) act w := by
  obtain ⟨i0, hi, hz0, hz1, hz2⟩ := info_parts Tryz.infoO
  refine wpList_append_own_at _ hgd s x 22 ho base 42 i0 _ 5 48 Tryz.underlying22 hi hz0 hz1 hz2 rfl (by decide) v L.length (onCs L) hs hown ⟨gx, 0, none⟩ 1 1 o.cs hx rfl (fun j u hu => ?_) (onCs_one o) (by unfold maxLen; omega) (by omega) hB ?_
  · rw [addr_add, Nat.zero_add]
    have hj : j < 5 := (List.getElem?_eq_some_iff.1 hu).1
    simp only [World.cell?, hby]
    match j, hj with
    | 0, _ => simpa using hu
    | 1, _ => simpa using hu
    | 2, _ => simpa using hu
    | 3, _ => simpa using hu
    | 4, _ => simpa using hu
  · intro v' w' ho' hg' _ hat'
    refine h v' w' ?_ hg' hat'
    have e : onCs (L ++ [o]) = onCs L ++ o.cs := by rw [onCs_append]; simp [onCs]
    rw [List.length_append, e]
    exact ho'
/-- One watch more is tried. -/
def laidF (acc : List On × List On) (o : On) : List On × List On := if addC acc.1 o = 0 then (insO o acc.1, acc.2 ++ [o]) else acc
def laidR (L : List On) : List On × List On := (L.take 60).foldl laidF ([], [])
theorem insO_len (o : On) (L : List On) : (insO o L).length = L.length + 1 := by
  have h1 : (L.filter (fun x => befO x o)).length + (L.filter (fun x => !befO x o)).length = L.length := by
    rw [← List.length_append]
    exact (part_perm (fun x => befO x o) L).length_eq
  unfold insO
  rw [List.length_append, List.length_cons]
  omega
theorem laidF_len (acc : List On × List On) (o : On) (n : Nat) (h : acc.1.length ≤ n ∧ acc.2.length ≤ n) : (laidF acc o).1.length ≤ n + 1 ∧ (laidF acc o).2.length ≤ n + 1 := by
  unfold laidF
  split
  · refine ⟨?_, ?_⟩
    · show (insO o acc.1).length ≤ n + 1
      rw [insO_len]
      omega
    · show (acc.2 ++ [o]).length ≤ n + 1
      rw [List.length_append, List.length_singleton]
      omega
  · omega
theorem laid_fold_len (L : List On) (acc : List On × List On) (n : Nat) (h : acc.1.length ≤ n ∧ acc.2.length ≤ n) : (L.foldl laidF acc).1.length ≤ n + L.length ∧ (L.foldl laidF acc).2.length ≤ n + L.length := by
  induction L generalizing acc n with
  | nil => exact h
  | cons o r ih =>
    have := ih (laidF acc o) (n + 1) (laidF_len acc o n h)
    show (r.foldl laidF (laidF acc o)).1.length ≤ _ ∧ (r.foldl laidF (laidF acc o)).2.length ≤ _
    rw [List.length_cons]
    omega
def laidJ (L : List On) (j : Nat) : List On × List On := (L.take j).foldl laidF ([], [])
theorem laidJ_next {L : List On} {j : Nat} {o : On} (h : L[j]? = some o) : laidJ L (j + 1) = laidF (laidJ L j) o := by
  unfold laidJ
  rw [List.take_add_one, h]
  simp
theorem laidJ_len (L : List On) (j : Nat) : (laidJ L j).1.length ≤ j ∧ (laidJ L j).2.length ≤ j := by
  have := laid_fold_len (L.take j) ([], []) 0 (by simp)
  rw [List.length_take] at this
  unfold laidJ
  omega
/-- The trie of the law and the list of what it took. -/
structure La (w wr : World) (K : Nat → Prop) (B : Nat) (vt : Value) (T : List On × List On) : Prop where
  own : Own9 w wr K B T.1
  row : wr.ownsRow w.heap.size 42 5 vt T.2.length (onCs T.2)
  apt : ∀ k, vt.ownBlock = some k → ¬ K k
theorem La.added {w wr w2 : World} {K K' : Nat → Prop} {B : Nat} {vt : Value} {T : List On × List On} {L' : List On} (h : La w wr K B vt T) (hA : At w2 K' B L') (hE : AtE wr w2 K K') : La w w2 K' B vt (L', T.2) :=
  ⟨h.own.add hA hE, owns_chg h.row hE.chg h.apt, fun k hk e => by
    rcases hE.new k e with e | e
    · exact h.apt k hk e
    · have := (h.row.lt k hk).2
      omega⟩
theorem La.below {w wr w2 : World} {K : Nat → Prop} {B : Nat} {vt : Value} {T : List On × List On} (h : La w wr K B vt T) (hb : Below wr.heap.size wr w2) : La w w2 K B vt T :=
  ⟨⟨h.own.at'.below hb, h.own.low, xtrans2 h.own.bel hb⟩, owns_below h.row hb, h.apt⟩
theorem La.push {w wr w2 : World} {K : Nat → Prop} {B : Nat} {vt vt' : Value} {T : List On × List On} {o : On} (h : La w wr K B vt T) (ho : w2.ownsRow w.heap.size 42 5 vt' (T.2 ++ [o]).length (onCs (T.2 ++ [o]))) (hg : wr.grownBy w2 vt.ownBlock) (ha : vt'.ownBlock = vt.ownBlock ∨ vt'.ownBlock = some wr.heap.size) : La w w2 K B vt' (T.1, T.2 ++ [o]) := by
  refine ⟨⟨h.own.at'.keep (Chg.grown hg) (fun k hk e => h.apt k e hk), h.own.low, h.own.bel.grown hg h.own.bel.size (fun k hk => (h.row.lt k hk).1)⟩, ho, fun k hk e => ?_⟩
  rcases ha with ha | ha
  · exact h.apt k (by rw [← ha]; exact hk) e
  · rw [hk] at ha
    cases ha
    exact Nat.lt_irrefl _ (h.own.at'.lt _ e)
set_option maxHeartbeats 32000000 in
set_option maxRecDepth 100000 in
theorem laid_any (a : Option Addr) (c : Nat) (L : List On) (w : World) (hL : OsAt w a L) (hlen : (L.length : Int) ≤ 9223372036854775807) (hwf : ∀ o ∈ L, wfI o.s) (hg : Ground w) :
    Calls Tryz.prog 10 #[.slice a L.length c] w fun e w' => ∃ K vt, e = .returned (.tuple #[ndV w.heap.size, vt]) ∧ La w w' K w.heap.size vt (laidR L) := by
  have HL : Hid (OsAt w a L) := hL
  have HG : Hid (Ground w) := hg
  have HWF : Hid (∀ o ∈ L, wfI o.s) := hwf
  clear hL hg hwf
  go_enter Tryz.func10, Tryz.ntmps10
  go_wp2_with (first
    | (go_at_call 15; refine (newA w).mono ?_; rintro e w1 ⟨rfl, hw1⟩
       have HO0 : Hid (Own9 w w1 (fun k => k = w.heap.size) w.heap.size []) := by
         subst hw1
         exact ⟨At.zero (heap_alloc_new _ _), fun k hk => by rw [hk]; exact Nat.le_refl _, (Below.refl _ _).alloc (Nat.le_refl _) _⟩
       clear hw1)
    | fail)
  go_loopw [5, 6] (fun vt vi wr => ∃ (j : Nat) (K : Nat → Prop), vi = .int .i64 j ∧ j ≤ L.length ∧ j ≤ 60 ∧ Hid (La w wr K w.heap.size vt (laidJ L j))) (fun _ vi _ => 60 - (intOf vi).toNat)
  case atStart => exact ⟨0, _, rfl, Nat.zero_le _, by omega, ⟨HO0.out, World.ownsRow_nil _ _ _ _, fun k hk => (by cases hk)⟩⟩
  case round =>
    obtain ⟨j, K, rfl, hj, hj60, HA⟩ := hrel
    by_cases hlt : j < L.length
    · have hlt' : (j : Int) < (L.length : Int) := by omega
      by_cases h60 : j < 60
      · have h60' : (j : Int) < 60 := by omega
        obtain ⟨x, hx⟩ : ∃ x, L[j]? = some x := ⟨L[j], List.getElem?_eq_getElem hlt⟩
        obtain ⟨b, o, rfl, x0, x1, x2, x3, x4⟩ := (HL.out.below HA.out.own.bel).at hx
        have HX : Hid (L[j]? = some x) := hx
        have HJN : Hid _ := laidJ_next hx
        have hln := laidJ_len L j
        have HADD : Hid _ := fun m => addA (wr.drewN m) K w.heap.size (laidJ L j).1 x (HA.out.own.at'.below (below_drewN (Below.refl _ _) m)) (HG.out.below (below_drewN HA.out.own.bel m)) (by omega) (HWF.out x (List.mem_of_getElem? hx))
        have HLN : Hid _ := hln
        obtain ⟨code, hcode⟩ : ∃ code, addC (laidJ L j).1 x = code := ⟨_, rfl⟩
        have HCODE : Hid (addC (laidJ L j).1 x = code) := hcode
        rw [hcode] at HADD
        clear hx hln hcode
        go_wp2_with fail
        go_region_held3 (fun w' => w'.cell? ⟨b, o + j * 5, none⟩ = some (.int .i64 x.s) ∧ w'.cell? ⟨b, o + j * 5 + 1, none⟩ = some (.int .i64 x.i) ∧ w'.cell? ⟨b, o + j * 5 + 2, none⟩ = some (.string x.p) ∧ w'.cell? ⟨b, o + j * 5 + 3, none⟩ = some (.int .i64 x.k) ∧ w'.cell? ⟨b, o + j * 5 + 4, none⟩ = some (.int .i64 x.f)) (first | go_keep | exact ⟨x0, x1, x2, x3, x4⟩)
          (first
            | (go_at_call 16; refine (HADD.out 1).mono ?_; rintro e w2 ⟨rfl, K2, hA2, hE2⟩
               have HLA : Hid (La w w2 K2 w.heap.size u5 ((if code = 0 then insO x (laidJ L j).1 else (laidJ L j).1), (laidJ L j).2)) := (HA.out.below (below_drewN (Below.refl _ _) 1)).added hA2 hE2
               clear x0 x1 x2 x3 x4 hA2 hE2
               obtain ⟨b', o', e', x0, x1, x2, x3, x4⟩ := (HL.out.below HLA.out.own.bel).at HX.out
               cases e'))
        by_cases h0 : code = 0
        · subst h0
          have HLA' : Hid (La w w2 K2 w.heap.size u5 (insO x (laidJ L j).1, (laidJ L j).2)) := HLA.out
          have HJ2 : Hid (laidJ L (j + 1) = (insO x (laidJ L j).1, (laidJ L j).2 ++ [x])) := by
            have := HJN.out
            unfold laidF at this
            rw [if_pos HCODE.out] at this
            exact this
          clear HLA
          go_wp2_with (first
            | (at_builtin; refine wpList_appO rfl _ _ rfl w.heap.size u5 (laidJ L j).2 rfl (owns_below HLA'.out.row ((Below.refl _ _).alloc (Nat.le_refl _) _)) w2.heap.size x rfl (heap_alloc_new _ _) (by have := HLN.out; omega) (by have := HLA'.out.own.bel.size; simp; omega) ?_
               intro v3 w3 ho3 hg3 ha3
               have HL3 : Hid (La w w3 K2 w.heap.size v3 (insO x (laidJ L j).1, (laidJ L j).2 ++ [x])) := (HLA'.out.below ((Below.refl _ _).alloc (Nat.le_refl _) _)).push ho3 hg3 ha3
               clear ho3 hg3 ha3)
            | fail)
          go_roundw
          case rel =>
            refine ⟨j + 1, K2, by go_num, by omega, by omega, ?_⟩
            show La _ _ _ _ _ _
            rw [HJ2.out]
            exact HL3.out
          case measure => simp [intOf]; omega
        · have HJ2 : Hid (laidJ L (j + 1) = laidJ L j) := by
            have := HJN.out
            unfold laidF at this
            rw [if_neg (by rw [HCODE.out]; exact h0)] at this
            exact this
          have HLA' : Hid (La w w2 K2 w.heap.size u5 (laidJ L j)) := by
            have := HLA.out
            rw [if_neg h0] at this
            exact this
          clear HLA
          go_wp2_with fail
          go_roundw
          case rel =>
            refine ⟨j + 1, K2, by go_num, by omega, by omega, ?_⟩
            show La _ _ _ _ _ _
            rw [HJ2.out]
            exact HLA'.out
          case measure => simp [intOf]; omega
      · obtain rfl : j = 60 := by omega
        have h60' : ¬ ((60 : Int) < 60) := by omega
        go_wp2_with fail
        go_ret2
        exact ⟨K, _, rfl, HA.out⟩
    · have hge : ¬ ((j : Int) < (L.length : Int)) := by omega
      have HE : Hid (laidR L = laidJ L j) := by
        show _ = _
        unfold laidR laidJ
        rw [List.take_of_length_le (by omega), List.take_of_length_le (by omega)]
      go_wp2_with fail
      go_ret2
      exact ⟨K, _, rfl, by rw [HE.out]; exact HA.out⟩
end Go.Proofs.YtbblckcjedjbcaaGreatDoor
