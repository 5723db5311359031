import Derived.Test.YtbblckcjedjbcaaGreatDoorXAtD
import Derived.Test.YtbblckcjedjbcaaGreatDoorLine
import Derived.Test.YtbblckcjedjbcaaGreatDoorJMat9
import Derived.Test.YtbblckcjedjbcaaGreatDoorXWalkL
namespace Go.Proofs.YtbblckcjedjbcaaGreatDoor
open Go.RowKit Go.Maps
set_option linter.unusedVariables false
set_option linter.unusedSimpArgs false

def Tail (r : List UInt8) : Prop := r = [] ∨ ∃ r', r = 47 :: r'
theorem ord_tail : ∀ (n m : List UInt8), (∀ b ∈ n, b ≠ 47) → (∀ b ∈ m, b ≠ 47) → ordL n m = -1 → ∀ r t, Tail r → ordL (n ++ r) (m ++ t) = -1
  | [], [], _, _, h, _, _, _ => by simp [ordL] at h
  | [], y :: ys, _, hm, _, r, t, hr => by
    rcases hr with rfl | ⟨r', rfl⟩
    · rfl
    · have hy : y ≠ 47 := hm y (by simp)
      have hy' : ¬ ((47 : UInt8).toNat = y.toNat) := fun e => hy (UInt8.toNat_inj.1 e).symm
      have hy2 : ¬ (y.toNat = 47) := fun e => hy' e.symm
      show ordL (47 :: r') (y :: (ys ++ t)) = -1
      rw [ordL, if_neg hy']
      unfold sg rk
      have h47 : (47 : UInt8).toNat = 47 := rfl
      rw [if_pos h47, if_neg hy2, if_pos (by omega)]
  | x :: xs, [], _, _, h, _, _, _ => by simp [ordL] at h
  | x :: xs, y :: ys, hn, hm, h, r, t, hr => by
    show ordL (x :: (xs ++ r)) (y :: (ys ++ t)) = -1
    rw [ordL] at h ⊢
    by_cases e : x.toNat = y.toNat
    · rw [if_pos e] at h ⊢
      exact ord_tail xs ys (fun b hb => hn b (by simp [hb])) (fun b hb => hm b (by simp [hb])) h r t hr
    · rw [if_neg e] at h ⊢
      exact h
theorem ordX_app : ∀ (p r t : List UInt8), ordL (p ++ r) (p ++ t) = ordL r t
  | [], _, _ => rfl
  | x :: p, r, t => by
    show ordL (x :: (p ++ r)) (x :: (p ++ t)) = _
    rw [ordL, if_pos rfl, ordX_app p r t]
theorem flat_tail (xs : List ByteArray) : Tail (flatN xs) := by
  cases xs with
  | nil => exact .inl rfl
  | cons x xs => exact .inr ⟨_, rfl⟩
theorem flat_split (c : Way) (n : ByteArray) (p : Way) : flatN (c ++ n :: p) = flatN c ++ 47 :: (n.data.toList ++ flatN p) := by
  unfold flatN
  rw [List.flatMap_append, List.flatMap_cons]
  rfl
/-- Two ways that part at a name. -/
theorem ord_part (c p q : Way) (n m : ByteArray) (hn : isNm n = true) (hm : isNm m = true) (h : ordL n.data.toList m.data.toList = -1) : ordL (flatN (c ++ n :: p)) (flatN (c ++ m :: q)) = -1 := by
  rw [flat_split, flat_split, ordX_app, ordL, if_pos rfl]
  exact ord_tail _ _ (nm_noslash hn) (nm_noslash hm) h _ _ (flat_tail p)
theorem ordX_pre : ∀ (s t : List UInt8), t ≠ [] → ordL s (s ++ t) = -1
  | [], [], h => absurd rfl h
  | [], _ :: _, _ => rfl
  | x :: s, t, h => by
    show ordL (x :: s) (x :: (s ++ t)) = -1
    rw [ordL, if_pos rfl]
    exact ordX_pre s t h
theorem place_flat {xs : Way} (h : xs ≠ []) : (placeB xs).data.toList = flatN xs := by
  rw [placeB, if_neg h, data_mk]
/-- A way and one below it. -/
theorem ord_below (c q : Way) (m : ByteArray) (hm : isNm m = true) : ordL (placeB c).data.toList (placeB (c ++ m :: q)).data.toList = -1 := by
  rw [place_flat (xs := c ++ m :: q) (by simp)]
  by_cases h : c = []
  · subst h
    rw [placeB, if_pos rfl, data_mk, flat_split]
    show ordL [47] (47 :: (m.data.toList ++ flatN q)) = -1
    rw [ordL, if_pos rfl]
    have := nm_nonempty hm
    cases hd : m.data.toList with
    | nil => exact absurd hd this
    | cons a b => rfl
  · rw [place_flat h, flat_split]
    exact ordX_pre _ _ (by simp)
end Go.Proofs.YtbblckcjedjbcaaGreatDoor
namespace Go.Proofs.YtbblckcjedjbcaaGreatDoor
open Go.RowKit Go.Maps
set_option linter.unusedVariables false
set_option linter.unusedSimpArgs false

def OrdW (a b : He) : Prop := ordL a.p.data.toList b.p.data.toList = -1 ∨ (a.p = b.p ∧ befH a b = true)
theorem he_place {h : He} (hk : parse h.p = (0, h.way)) : h.p = placeB h.way := (parse_back hk).symm
theorem he_names {h : He} (hk : parse h.p = (0, h.way)) : ∀ n ∈ h.way, isNm n = true := fun n hn => List.all_eq_true.1 (parse_len hk).2 n hn
theorem wayPre_split {p q : Way} {l : List UInt8} (h : wayOf p l <+: q) : ∃ r, q = p ++ ⟨l.toArray⟩ :: r := by
  obtain ⟨r, rfl⟩ := h
  exact ⟨r, by unfold wayOf; simp⟩
theorem sort_lt {D : List Way} (hd : D.Nodup) (p : Way) : (sortX (kidsB D p)).Pairwise (fun a b => ordL a b = -1) := by
  have h1 := sortX_asc (kidsB D p)
  have h2 : (sortX (kidsB D p)).Nodup := (sortX_perm _).nodup_iff.2 (kidsB_nodup hd p)
  refine List.Pairwise.imp (fun {a b} hab => ?_) (List.Pairwise.and h1 h2)
  rcases ordL_range a b with e | e | e
  · exact e
  · exact absurd (ordL_zero _ _ e) hab.2
  · exact absurd e hab.1
theorem all_ord (D : List Way) (hs : List He) (hd0 : D.Nodup) (ho : Ord hs) (hup : ∀ p n, p ++ [n] ∈ D → p ∈ D) (hin : ∀ x ∈ hs, x.way ∈ D) (hok : ∀ x ∈ hs, parse x.p = (0, x.way)) : ∀ (d : Nat) (p : Way), (∀ q ∈ D, p <+: q → q.length ≤ p.length + d) → (allH D hs d p).Pairwise OrdW := by
  have step : ∀ (p : Way) (R : Way → List He), (∀ l ∈ kidsB D p, ∀ x, x ∈ R (wayOf p l) → x ∈ hs ∧ wayOf p l <+: x.way) → (∀ l ∈ kidsB D p, (R (wayOf p l)).Pairwise OrdW) → (allS D hs p R).Pairwise OrdW := by
    intro p R hR hN
    unfold allS
    refine List.pairwise_append.2 ⟨?_, ?_, ?_⟩
    · refine List.Pairwise.imp_of_mem (fun {a b} ha hb hab => .inr ⟨?_, hab⟩) (List.Pairwise.filter _ ho)
      have ha' := here_mem.1 ha
      have hb' := here_mem.1 hb
      rw [he_place (hok a ha'.1), he_place (hok b hb'.1), ha'.2, hb'.2]
    · refine List.pairwise_flatMap.2 ⟨fun l hl => hN l ((sortX_perm _).mem_iff.1 hl), ?_⟩
      refine List.Pairwise.imp_of_mem (fun {a b} ha hb hab x hx z hz => .inl ?_) (sort_lt hd0 p)
      obtain ⟨x1, x2⟩ := hR a ((sortX_perm _).mem_iff.1 ha) x hx
      obtain ⟨z1, z2⟩ := hR b ((sortX_perm _).mem_iff.1 hb) z hz
      obtain ⟨r, hr⟩ := wayPre_split x2
      obtain ⟨t, ht⟩ := wayPre_split z2
      have nx := he_names (hok x x1) ⟨a.toArray⟩ (by rw [hr]; simp)
      have nz := he_names (hok z z1) ⟨b.toArray⟩ (by rw [ht]; simp)
      rw [he_place (hok x x1), he_place (hok z z1), hr, ht, place_flat (by simp), place_flat (by simp)]
      exact ord_part p r t _ _ nx nz (by simpa using hab)
    · intro a ha z hz
      obtain ⟨l, hl, hx⟩ := List.mem_flatMap.1 hz
      obtain ⟨z1, z2⟩ := hR l ((sortX_perm _).mem_iff.1 hl) z hx
      obtain ⟨t, ht⟩ := wayPre_split z2
      have nz := he_names (hok z z1) ⟨l.toArray⟩ (by rw [ht]; simp)
      have ha' := here_mem.1 ha
      refine .inl ?_
      rw [he_place (hok a ha'.1), he_place (hok z z1), ha'.2, ht]
      exact ord_below p t _ nz
  intro d
  induction d with
  | zero =>
    intro p hd
    have hno : ∀ l ∈ kidsB D p, False := fun l hl => by
      have := hd _ (way_kid hl) (List.prefix_append p _)
      rw [wayOf, List.length_append, List.length_singleton] at this
      omega
    exact step p _ (fun l hl => (hno l hl).elim) (fun l hl => (hno l hl).elim)
  | succ d ih =>
    intro p hd
    have hdk : ∀ l, ∀ q ∈ D, wayOf p l <+: q → q.length ≤ (wayOf p l).length + d := fun l q hq hq2 => by
      have h1 := hd q hq ((List.prefix_append p _).trans hq2)
      rw [wayOf, List.length_append, List.length_singleton]
      omega
    exact step p _ (fun l hl x hx => (all_mem D hs hup hin d (wayOf p l) (hdk l) x).1 hx) (fun l hl => ih _ (hdk l))
/-- By places, then sessions, then ids. -/
def OrdP (a b : On) : Prop := ordL a.p.data.toList b.p.data.toList = -1 ∨ (a.p = b.p ∧ befO a b = true)
theorem walkO_ord {w : World} {K : Nat → Prop} {B : Nat} {L : List On} (hA : At w K B L) : (walkO L).Pairwise OrdP := by
  obtain ⟨y, D, σ, τ, hs, hT, rfl, hK, hH, hZ⟩ := hA
  rw [← wk_on hT]
  refine List.pairwise_map.2 ?_
  exact all_ord D hs hT.tr.dn hT.tr.ord hT.tr.up hT.way_in hT.ok 6 [] (wk_len hT)
end Go.Proofs.YtbblckcjedjbcaaGreatDoor
namespace Go.Proofs.YtbblckcjedjbcaaGreatDoor.J
open Go.RowKit
set_option maxHeartbeats 3200000
theorem weight_any (c : UInt8) (w : World) :
    Calls Tryz.prog 109 #[.int .u8 (c.toNat : Int)] w fun e w' => e = .returned (.int .i64 (rk c)) ∧ w' = w := by
  unfold rk
  by_cases h : c.toNat = 47
  · rw [if_pos h]
    go_enter Tryz.func109, Tryz.ntmps109
    go_wp2
    go_ret
    exact ⟨rfl, rfl⟩
  · rw [if_neg h]
    have h1 : ((c.toNat : Int) == 47) = false := by simp; omega
    have h2 : (c.toNat : Int) < 256 := by have := c.toNat_lt; omega
    go_enter Tryz.func109, Tryz.ntmps109
    go_wp2
    go_ret
    exact ⟨rfl, rfl⟩
theorem ref_any (a b : ByteArray) (ha : a.size ≤ maxLen) (hb : b.size ≤ maxLen) (w : World) :
    Calls Tryz.prog 81 #[.string a, .string b] w fun e w' => e = .returned (.int .i64 (ordF a b (min a.size b.size + 1) 0)) ∧ w' = w := by
  unfold maxLen at ha hb
  go_enter Tryz.func81, Tryz.ntmps81
  go_wp2
  go_loop [5] (fun i => ∃ k : Nat, i = .int .i64 k ∧ k ≤ min a.size b.size ∧ ordF a b (min a.size b.size + 1 - k) k = ordF a b (min a.size b.size + 1) 0)
      (fun i => min a.size b.size - (intOf i).toNat)
  case atStart => exact ⟨0, rfl, by omega, by simp⟩
  case round =>
      obtain ⟨k, rfl, hk, hO⟩ := hrel
      have HO : Hid (ordF a b (min a.size b.size + 1 - k) k = ordF a b (min a.size b.size + 1) 0) := hO
      clear hO
      by_cases g3 : k < a.size
      · by_cases g4 : k < b.size
        · rcases Int.lt_trichotomy (rk a[k]) (rk b[k]) with hc | hc | hc
          · go_wp2_with (first | (go_at_call 109; refine (weight_any _ _).mono ?_; rintro e w' ⟨rfl, rfl⟩) | go_in)
            go_ret
            refine ⟨?_, rfl⟩
            rw [← HO.out, show min a.size b.size + 1 - k = (min a.size b.size - k) + 1 by omega, ordF_part a b _ k g3 g4 (by rw [get!_at a k g3, get!_at b k g4]; intro h; unfold rk at hc; rw [h] at hc; omega), get!_at a k g3, get!_at b k g4, sg, if_pos hc]
            rfl
          · go_wp2_with (first | (go_at_call 109; refine (weight_any _ _).mono ?_; rintro e w' ⟨rfl, rfl⟩) | go_in)
            go_round
            case rel => exact ⟨k + 1, by go_num, by omega, by rw [← HO.out, show min a.size b.size + 1 - k = (min a.size b.size - k) + 1 by omega, ordF_go a b _ k g3 g4 (by rw [get!_at a k g3, get!_at b k g4]; exact rk_inj hc)]; congr 1; omega⟩
            case measure => simp [intOf]; omega
          · go_wp2_with (first | (go_at_call 109; refine (weight_any _ _).mono ?_; rintro e w' ⟨rfl, rfl⟩) | go_in)
            go_ret
            refine ⟨?_, rfl⟩
            rw [← HO.out, show min a.size b.size + 1 - k = (min a.size b.size - k) + 1 by omega, ordF_part a b _ k g3 g4 (by rw [get!_at a k g3, get!_at b k g4]; intro h; unfold rk at hc; rw [h] at hc; omega), get!_at a k g3, get!_at b k g4, sg, if_neg (by omega), if_pos hc]
            rfl
        · go_wp2
          all_goals (
            go_ret
            refine ⟨?_, rfl⟩
            rw [← HO.out, show min a.size b.size + 1 - k = (min a.size b.size - k) + 1 by omega, ordF_end a b _ k (by omega)]
            first
              | rw [sg_lt (by omega)]; rfl
              | rw [sg_gt (by omega)]; rfl
              | rw [sg_eq (by omega)]; rfl)
      · go_wp2
        all_goals (
          go_ret
          refine ⟨?_, rfl⟩
          rw [← HO.out, show min a.size b.size + 1 - k = (min a.size b.size - k) + 1 by omega, ordF_end a b _ k (by omega)]
          first
            | rw [sg_lt (by omega)]; rfl
            | rw [sg_gt (by omega)]; rfl
            | rw [sg_eq (by omega)]; rfl)
end Go.Proofs.YtbblckcjedjbcaaGreatDoor.J
namespace Go.Proofs.YtbblckcjedjbcaaGreatDoor.J
open Go.RowKit Go.Maps
set_option linter.unusedVariables false
set_option linter.unusedSimpArgs false

def loP (x y : On) : Bool := decide (ordL x.p.data.toList y.p.data.toList = -1)
def insX (x : On) : List On → List On
  | [] => [x]
  | y :: r => if loP x y = true then x :: y :: r else y :: insX x r
def walkX (L : List On) : List On := L.foldl (fun M x => insX x M) []
theorem walkX_snoc (L : List On) (x : On) : walkX (L ++ [x]) = insX x (walkX L) := by simp [walkX]
theorem insX_perm (x : On) (M : List On) : (insX x M).Perm (x :: M) := by
  induction M with
  | nil => exact List.Perm.refl _
  | cons y r ih =>
    unfold insX
    split
    · exact List.Perm.refl _
    · exact (List.Perm.cons y ih).trans (List.Perm.swap x y r)
theorem insX_mem {x : On} {M : List On} {z : On} : z ∈ insX x M ↔ z = x ∨ z ∈ M := by rw [(insX_perm x M).mem_iff, List.mem_cons]
theorem place_eq {a b : ByteArray} (h : a.data.toList = b.data.toList) : a = b := by
  cases a; cases b
  congr 1
  exact Array.toList_inj.1 h
theorem ordP_trans {a b c : On} (h1 : OrdP a b) (h2 : OrdP b c) : OrdP a c := by
  rcases h1 with h1 | ⟨h1, g1⟩
  · rcases h2 with h2 | ⟨h2, g2⟩
    · exact .inl (ordL_trans _ _ _ h1 h2)
    · exact .inl (by rw [← h2]; exact h1)
  · rcases h2 with h2 | ⟨h2, g2⟩
    · exact .inl (by rw [h1]; exact h2)
    · exact .inr ⟨h1.trans h2, bef_trans g1 g2⟩
theorem ordP_irr (a : On) : ¬ OrdP a a := by
  rintro (h | ⟨_, h⟩)
  · rw [ordL_self] at h
    cases h
  · unfold befO at h
    rw [bef_irr] at h
    cases h
theorem lo_no {x y : On} (h : loP x y = false) (hb : befO y x = true) : OrdP y x := by
  unfold loP at h
  have h1 : ¬ ordL x.p.data.toList y.p.data.toList = -1 := by simpa using h
  rcases ordL_range x.p.data.toList y.p.data.toList with h2 | h2 | h2
  · exact (h1 h2).elim
  · exact .inr ⟨(place_eq (ordL_zero _ _ h2)).symm, hb⟩
  · refine .inl ?_
    rw [ordL_anti x.p.data.toList y.p.data.toList, h2]
theorem insX_ord {x : On} {M : List On} (hM : M.Pairwise OrdP) (hb : ∀ y ∈ M, befO y x = true) : (insX x M).Pairwise OrdP := by
  induction M with
  | nil => exact List.pairwise_singleton _ _
  | cons y r ih =>
    obtain ⟨h1, h2⟩ := List.pairwise_cons.1 hM
    unfold insX
    split
    · rename_i hl
      have hxy : OrdP x y := .inl (by unfold loP at hl; simpa using hl)
      refine List.pairwise_cons.2 ⟨fun z hz => ?_, hM⟩
      rcases List.mem_cons.1 hz with rfl | hz
      · exact hxy
      · exact ordP_trans hxy (h1 z hz)
    · rename_i hl
      have hl' : loP x y = false := by simpa using hl
      refine List.pairwise_cons.2 ⟨fun z hz => ?_, ih h2 (fun z hz => hb z (List.mem_cons_of_mem _ hz))⟩
      rcases insX_mem.1 hz with rfl | hz
      · exact lo_no hl' (hb y List.mem_cons_self)
      · exact h1 z hz
theorem walkX_spec : ∀ (n : Nat) (L : List On), L.length = n → OrdO L → (walkX L).Perm L ∧ (walkX L).Pairwise OrdP := by
  intro n
  induction n with
  | zero =>
    intro L hn _
    have : L = [] := List.length_eq_zero_iff.1 hn
    subst this
    exact ⟨List.Perm.refl _, List.Pairwise.nil⟩
  | succ n ih =>
    intro L hn hO
    have hne : L ≠ [] := by intro e; rw [e] at hn; cases hn
    obtain ⟨M, x, rfl⟩ : ∃ M x, L = M ++ [x] := ⟨L.dropLast, L.getLast hne, (List.dropLast_concat_getLast hne).symm⟩
    obtain ⟨p1, p2, p3⟩ := List.pairwise_append.1 hO
    obtain ⟨h1, h2⟩ := ih M (by simpa using hn) p1
    rw [walkX_snoc]
    refine ⟨(insX_perm x _).trans ((List.Perm.cons x h1).trans (List.perm_append_singleton x M).symm), insX_ord h2 (fun y hy => p3 y (h1.mem_iff.1 hy) x (by simp))⟩
theorem ordP_same {L M : List On} (hL : L.Pairwise OrdP) (hM : M.Pairwise OrdP) (hp : L.Perm M) : L = M :=
  hp.eq_of_pairwise (fun a b _ _ h1 h2 => (ordP_irr a (ordP_trans h1 h2)).elim) hL hM
theorem walkX_is {w : World} {K : Nat → Prop} {B : Nat} {L : List On} (hA : At w K B L) : walkX L = walkO L := by
  obtain ⟨h1, h2⟩ := walkX_spec L.length L rfl hA.ord
  exact ordP_same h2 (walkO_ord hA) (h1.trans (walkO_perm hA).symm)
theorem take_snocW {α : Type} {l : List α} {q : Nat} {x : α} (h : l[q]? = some x) : l.take (q + 1) = l.take q ++ [x] := by rw [List.take_add_one, h]; rfl
theorem scO_snoc (L : List On) (o : On) : scO (L ++ [o]) = scO L ++ o.sc := by simp [scO]
theorem sc_oneO (o : On) : ∀ v ∈ o.sc, v.oneCell' = true := by
  intro v hv
  simp at hv
  rcases hv with rfl | rfl | rfl <;> rfl
theorem wpList_appS {w : World} {ops : Array Oper} {rest : List Oper} {op : Oper} {act : Act} {Q : Exit → Act → World → Prop} (hgd : op.guard = none) (s x : Operand)
    (ho : op.op = .call { callee := .builtin .append, args := #[s, x], argTypes := #[29, 29] }) (base : Nat) (v : Value) (L : List On) (hs : act.eval s = v) (hown : w.ownsRow base 36 3 v L.length (scO L))
    (gx : Nat) (o : On) (hx : act.eval x = .slice (some ⟨gx, 0, none⟩) 1 1) (hby : w.heap[gx]? = some (.cells #[.string o.p, .int .i64 o.s, .int .i64 o.i] 36 (0, 0))) (hlen : L.length + 1 ≤ 1000000) (hB : base ≤ w.heap.size)
    (h : ∀ v' w', w'.ownsRow base 36 3 v' (L ++ [o]).length (scO (L ++ [o])) → Below base w w' → wpList Tryz.prog ops Q rest (act.put op.dst v') w') : wpList Tryz.prog ops Q (op :: rest) act w := by
  obtain ⟨i0, hi, hz0, hz1, hz2⟩ := info_parts Tryz.infoSt
  refine wpList_append_own_at _ hgd s x 29 ho base 36 i0 _ 3 32 Tryz.underlying29 hi hz0 hz1 hz2 rfl (by decide) v L.length (scO L) hs hown ⟨gx, 0, none⟩ 1 1 o.sc hx rfl (fun j u hu => ?_) (sc_oneO o) (by unfold maxLen; omega) (by omega) hB ?_
  · rw [addr_add, Nat.zero_add]
    have hj : j < 3 := (List.getElem?_eq_some_iff.1 hu).1
    simp only [World.cell?, hby]
    match j, hj with
    | 0, _ => simpa using hu
    | 1, _ => simpa using hu
    | 2, _ => simpa using hu
  · intro v' w' ho' hg' _ hat'
    refine h v' w' ?_ ((Chg.grown hg').below hB (fun k hk e => (row_block hown k e).1))
    rw [List.length_append, scO_snoc]
    exact ho'
/-- The list in the inner loop. -/
def InX (x : On) (M : List On) (k : Nat) (dn : Bool) (N : List On) : Prop :=
  (dn = true ∧ insX x M = N ++ M.drop k) ∨ (dn = false ∧ N = M.take k ∧ insX x M = N ++ insX x (M.drop k))
theorem inX_start (x : On) (M : List On) : InX x M 0 false [] := .inr ⟨rfl, rfl, rfl⟩
theorem drop_get {α : Type} {M : List α} {k : Nat} {y : α} (h : M[k]? = some y) : M.drop k = y :: M.drop (k + 1) := by
  obtain ⟨h1, rfl⟩ := List.getElem?_eq_some_iff.1 h
  exact List.drop_eq_getElem_cons h1
theorem inX_done {x y : On} {M N : List On} {k : Nat} (h : InX x M k true N) (hy : M[k]? = some y) : InX x M (k + 1) true (N ++ [y]) := by
  rcases h with ⟨_, h⟩ | ⟨h, _⟩
  · refine .inl ⟨rfl, ?_⟩
    rw [h, drop_get hy]
    simp
  · cases h
theorem inX_put {x y : On} {M N : List On} {k : Nat} (h : InX x M k false N) (hy : M[k]? = some y) (hl : loP x y = true) : InX x M (k + 1) true (N ++ [x] ++ [y]) := by
  rcases h with ⟨h, _⟩ | ⟨_, h1, h2⟩
  · cases h
  · refine .inl ⟨rfl, ?_⟩
    rw [h2, drop_get hy]
    unfold insX
    rw [if_pos hl]
    simp
theorem inX_pass {x y : On} {M N : List On} {k : Nat} (h : InX x M k false N) (hy : M[k]? = some y) (hl : loP x y = false) : InX x M (k + 1) false (N ++ [y]) := by
  rcases h with ⟨h, _⟩ | ⟨_, h1, h2⟩
  · cases h
  · refine .inr ⟨rfl, by rw [h1, take_snocW hy], ?_⟩
    rw [h2, drop_get hy]
    conv => lhs; unfold insX
    rw [if_neg (by rw [hl]; decide)]
    simp
theorem inX_end {x : On} {M N : List On} {k : Nat} {dn : Bool} (h : InX x M k dn N) (hk : M.length ≤ k) : insX x M = if dn = true then N else N ++ [x] := by
  rcases h with ⟨rfl, h⟩ | ⟨rfl, h1, h2⟩
  · rw [h, List.drop_eq_nil_of_le hk, List.append_nil]
    rfl
  · rw [h2, List.drop_eq_nil_of_le hk]
    rfl
theorem inX_len {x : On} {M N : List On} {k : Nat} {dn : Bool} (h : InX x M k dn N) : N.length ≤ M.length + 1 := by
  have h0 := (insX_perm x M).length_eq
  rw [List.length_cons] at h0
  rcases h with ⟨_, h⟩ | ⟨_, h1, h2⟩
  · rw [h, List.length_append] at h0
    omega
  · rw [h1, List.length_take]
    omega
end Go.Proofs.YtbblckcjedjbcaaGreatDoor.J
