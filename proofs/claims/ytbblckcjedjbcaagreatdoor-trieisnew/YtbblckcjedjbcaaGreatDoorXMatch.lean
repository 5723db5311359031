import Derived.Test.YtbblckcjedjbcaaGreatDoorXAlong
import Derived.Test.YtbblckcjedjbcaaGreatDoorShelfG
import Derived.Shelf.SlSortCmp.WholeK
import Derived.Sort.OwnSorted
namespace Go.Proofs.YtbblckcjedjbcaaGreatDoor
open Go.RowKit Go.Maps Go.Sort Go.Shelf
set_option linter.unusedVariables false
set_option linter.unusedSimpArgs false

abbrev Tg := Int × Int
def encT (t : Tg) : List Value := [.int .i64 t.1, .int .i64 t.2]
def cfT (a b : Tg) : Int := ctI a.1 a.2 b.1 b.2
def befT (a b : Tg) : Bool := befB a.1 a.2 b.1 b.2
theorem ltT (a b : Tg) : ltOf cfT a b = befT a b := by
  rw [Bool.eq_iff_iff]
  unfold ltOf cfT befT
  rw [← ct_neg]
  simp
theorem bef_cotrans {a b c d e f : Int} (h1 : befB a b c d = false) (h2 : befB c d e f = false) : befB a b e f = false := by
  unfold befB at *
  simp only [Bool.or_eq_false_iff, Bool.and_eq_false_iff, decide_eq_false_iff_not] at *
  omega
theorem swoT : SWO (ltOf cfT) where
  irrefl x := by rw [ltT]; exact bef_irr _ _
  trans x y z h1 h2 := by rw [ltT] at *; exact bef_trans h1 h2
  ntrans x y z h1 h2 := by rw [ltT] at *; exact bef_cotrans h1 h2
theorem cmpT (blk off size : Nat) (w : World) : CmpLays Tryz.prog 35 #[] encT 2 cfT blk off size w := by
  intro m os dk _ x y
  refine (order_tags x.1 x.2 y.1 y.2 _).mono ?_
  rintro e w' ⟨he, n, os', hw⟩
  exact ⟨he, n, os', hw⟩
end Go.Proofs.YtbblckcjedjbcaaGreatDoor
namespace Go.Proofs.YtbblckcjedjbcaaGreatDoor
open Go.RowKit Go.Maps Go.Sort Go.Shelf
set_option linter.unusedVariables false
set_option linter.unusedSimpArgs false

def tgCs (ts : List Tg) : List Value := ts.flatMap encT
theorem tgCs_len (ts : List Tg) : (tgCs ts).length = ts.length * 2 := by
  induction ts with
  | nil => rfl
  | cons t r ih =>
    have e : tgCs (t :: r) = .int .i64 t.1 :: .int .i64 t.2 :: tgCs r := rfl
    rw [e, List.length_cons, List.length_cons, List.length_cons, ih]
    omega
theorem tgCs_append (a b : List Tg) : tgCs (a ++ b) = tgCs a ++ tgCs b := by simp [tgCs]
theorem tgCs_at (ts : List Tg) (t : Nat) (h : t < ts.length * 2) : (tgCs ts)[t]? = some ((encT ts.toArray[t / 2]!)[t % 2]!) := by
  induction ts generalizing t with
  | nil => simp at h
  | cons a r ih =>
    have e : tgCs (a :: r) = .int .i64 a.1 :: .int .i64 a.2 :: tgCs r := rfl
    rw [e]
    match t with
    | 0 => simp [encT]
    | 1 => simp [encT]
    | t + 2 =>
      have h1 := ih t (by simp at h; omega)
      have e1 : (t + 2) / 2 = t / 2 + 1 := by omega
      have e2 : (t + 2) % 2 = t % 2 := by omega
      rw [e1, e2, List.getElem?_cons_succ, List.getElem?_cons_succ, h1]
      simp
theorem flatT (ts : List Tg) : (flatK encT 2 ts.toArray).toList = tgCs ts := by
  apply List.ext_getElem?
  intro j
  by_cases hj : j < ts.length * 2
  · rw [tgCs_at ts j hj, Array.getElem?_toList]
    have hs : j < (flatK encT 2 ts.toArray).size := by simp; omega
    rw [Array.getElem?_eq_getElem hs, ← getElem!_pos _ j hs, get_flatK _ _ _ _ (by simpa using hj)]
  · rw [List.getElem?_eq_none (by simp; omega), List.getElem?_eq_none (by rw [tgCs_len]; omega)]
theorem heap_putId {w : World} {g n : Nat} {os : Array Obj} {cur : Array Value} {e : TypeId} {fr : Nat × Nat} (F : Array Value) (hb : w.heap[g]? = some (.cells cur e fr)) :
    (grow (putRow id (Sort.ahead w n) g 0 F) os).heap[g]? = some (.cells (putCells id 0 F cur) e fr) := by
  have hg : g < w.heap.size := (Array.getElem?_eq_some_iff.1 hb).1
  rw [heap_grow_old _ _ (by simpa using hg)]
  simp [putRow, mapBlock, Sort.ahead, Array.getElem?_modify, hb, onCells]
theorem grown_putId {w : World} {g n : Nat} {os : Array Obj} (F : Array Value) : w.grownBy (grow (putRow id (Sort.ahead w n) g 0 F) os) (some g) := by
  refine ⟨rfl, rfl, rfl, by simp, fun k hk hne => ?_⟩
  rw [heap_grow_old _ _ (by simpa using hk)]
  have : g ≠ k := fun e => hne (by rw [e])
  simp [putRow, mapBlock, Sort.ahead, Array.getElem?_modify, this]
theorem take_putId (cur F : Array Value) (h : F.size ≤ cur.size) : (putCells id 0 F cur).toList.take F.size = F.toList := by
  apply List.ext_getElem?
  intro j
  by_cases hj : j < F.size
  · rw [List.getElem?_take_of_lt hj, Array.getElem?_toList]
    simp [putCells, hj, show j < cur.size by omega]
  · rw [List.getElem?_take_eq_none (by omega), List.getElem?_eq_none (by simp; omega)]
theorem encT_len (t : Tg) : (encT t).length = 2 := rfl
theorem encT_one (t : Tg) : ∀ v ∈ encT t, v.oneCell' = true := by
  intro v hv
  simp [encT] at hv
  rcases hv with rfl | rfl <;> rfl
abbrev ordTV : Value := .func (.func 35) #[] #[]
set_option maxHeartbeats 4000000 in
theorem sortTags (base g cap : Nat) (ts : List Tg) (w : World) (ho : w.ownsRow base 34 2 (.slice (some ⟨g, 0, none⟩) ts.length cap) ts.length (tgCs ts)) (hl : ts.length ≤ 100000) :
    Calls Tryz.prog 34 #[.slice (some ⟨g, 0, none⟩) ts.length cap, ordTV] w fun e w' => e = .returned (.tuple #[]) ∧ ∃ us : List Tg, us.Perm ts ∧ us.Pairwise (fun a b => befT b a = false) ∧ w'.ownsRow base 34 2 (.slice (some ⟨g, 0, none⟩) ts.length cap) ts.length (tgCs us) ∧ w.grownBy w' (some g) := by
  rcases ho.2 with ⟨h0, _⟩ | ⟨g', cap', cur, hv, hB, hg, hn, hc, hsz, ht⟩
  · cases h0
  obtain ⟨rfl, rfl⟩ : g = g' ∧ cap = cap' := by
    simp only [Value.slice.injEq, Option.some.injEq, Addr.mk.injEq] at hv
    exact ⟨hv.1.1, hv.2.2⟩
  have hH : HoldsK encT 2 w g 0 ts.toArray := by
    intro j hj
    have hj' : j < ts.length * 2 := by simpa using hj
    rw [get_flatK _ _ _ _ (by simpa using hj')]
    refine ⟨?_, by simp [World.frozen?, hg]⟩
    have h1 := cell_n ho (tgCs_at ts j hj')
    rw [Nat.zero_add]
    exact h1
  have hcon := AnyQ.slices_SortFunc Tryz.sortT 2 (by intro w; kernel_rfl) (by intro w; kernel_rfl) encT encT_len encT_one cfT swoT 35 #[] g 0 cap ts.toArray w (enters_of Tryz.func35 (by kernel_rfl) rfl) (cmpT g 0 ts.toArray.size w) hH (lt_of_blk hg) (by simp; omega)
  have HCON : Calls Tryz.prog 34 #[.slice (some ⟨g, 0, none⟩) ts.length cap, ordTV] w fun e w' => e = .returned (.tuple #[]) ∧ ∃ d' n os, PermIn 0 ts.toArray.size ts.toArray d' ∧ SortedIn (ltOf cfT) 0 ts.toArray.size d' ∧ w' = sortWorldK encT 2 w g 0 n d' os := hcon
  refine Calls.mono HCON ?_
  rintro e w2 ⟨rfl, d', nn, os, hpm, hso, rfl⟩
  obtain ⟨us, rfl⟩ : ∃ us : List Tg, d' = us.toArray := ⟨d'.toList, by simp⟩
  have hlu : us.length = ts.length := by simpa using hpm.1
  have hpp : us.Perm ts := by
    have := hpm.2.2
    simpa [hlu, List.take_of_length_le] using this
  refine ⟨rfl, us, hpp, ?_, ?_, grown_putId _⟩
  · rw [List.pairwise_iff_getElem]
    intro i j hi hj hij
    have hs := hso i j (Nat.zero_le _) hij (by simp; omega)
    have e1 : us.toArray[j]! = us[j] := by simp [hj]
    have e2 : us.toArray[i]! = us[i] := by simp [hi]
    rw [e1, e2, ltT] at hs
    exact hs
  · refine ⟨by rw [tgCs_len, hlu], .inr ⟨g, cap, _, rfl, hB, heap_putId _ hg, hn, hc, by simp [putCells, hsz], ?_⟩⟩
    have h1 := take_putId cur (flatK encT 2 us.toArray) (by simp; omega)
    rw [flatT] at h1
    have e : (flatK encT 2 us.toArray).size = ts.length * 2 := by simp [hlu]
    rw [e] at h1
    exact h1
set_option maxHeartbeats 4000000 in
set_option maxRecDepth 100000 in
theorem sortNil (w : World) :
    Calls Tryz.prog 34 #[.slice none 0 0, ordTV] w fun e w' => e = .returned (.tuple #[]) ∧ Below w.heap.size w w' := by
  go_enter Tryz.func34, Tryz.ntmps34
  go_wp2_with (first | go_in | fail)
  refine wp_loop_rounds 1 ?_
  rw [rounds_succ]
  go_wp2_with (first | go_in | fail)
  refine wp_loop_rounds 1 ?_
  rw [rounds_succ]
  go_wp2_with (first | go_in | fail)
  go_end0
  simp only []
  go_wp2_with (first | go_in | fail)
  refine bodyPost_ret (results_none rfl _ _ _) rfl ?_
  simp only []
  go_wp2_with (first | go_in | fail)
  go_end0
  exact ⟨rfl, Below.refl _ _⟩
end Go.Proofs.YtbblckcjedjbcaaGreatDoor
namespace Go.Proofs.YtbblckcjedjbcaaGreatDoor
open Go.RowKit Go.Maps
set_option linter.unusedVariables false
set_option linter.unusedSimpArgs false

abbrev chV (k : Int) (p d : ByteArray) (v : Int) : Value := .agg #[.int .i64 k, .string p, .string d, .int .i64 v]
/-- Whether a watch is for a change. -/
def matH (stamp ck : Int) (cp : ByteArray) (h : He) : Bool := decide (h.f < stamp) && covers h.k h.p ck cp
set_option maxHeartbeats 16000000 in
set_option maxRecDepth 100000 in
theorem matches_any (h : He) (stamp ck : Int) (cp cd : ByteArray) (cv : Int) (w : World) (hh : HdAt w h) (hg : Ground w) :
    Calls Tryz.prog 32 #[h.ptr, .int .i64 stamp, chV ck cp cd cv] w fun e w' => e = .returned (.bool (matH stamp ck cp h)) ∧ Below w.heap.size w w' := by
  have hb0 : Below w.heap.size w (w.alloc (.cells #[.int .i64 ck, .string cp, .string cd, .int .i64 cv] 24)) := (Below.refl _ _).alloc (Nat.le_refl _) _
  have hx0 : (w.alloc (.cells #[.int .i64 ck, .string cp, .string cd, .int .i64 cv] 24)).heap[w.heap.size]? = some (.cells #[.int .i64 ck, .string cp, .string cd, .int .i64 cv] 24 (0, 0)) := heap_alloc_new _ _
  obtain ⟨b0, b1, b2, b3⟩ := cells_4 hx0
  obtain ⟨x0, x1, x2, x3, x4⟩ := cells_5 (hh.below hb0)
  have HB0 : Hid _ := hb0
  have HX0 : Hid _ := hx0
  have HH : Hid (HdAt w h) := hh
  have HG : Hid (Ground w) := hg
  unfold matH
  obtain ⟨cv', hcv⟩ : ∃ b, covers h.k h.p ck cp = b := ⟨_, rfl⟩
  have HC : Hid (∀ w, Ground w → Calls Tryz.prog 61 #[.int .i64 h.k, .string h.p, .int .i64 ck, .string cp] w fun e w' => e = .returned (.bool cv') ∧ Below w.heap.size w w') := fun w hg => by rw [← hcv]; exact covers_any h.k ck h.p cp w hg
  rw [hcv]
  clear hh hg hb0 hx0 hcv
  cases hd : decide (h.f < stamp) with
  | false =>
    go_enter Tryz.func32, Tryz.ntmps32
    go_wp2_with fail
    go_quiet (fail)
    go_wp2_with fail
    go_ret
    exact ⟨rfl, below_drewN HB0.out _⟩
  | true =>
    go_enter Tryz.func32, Tryz.ntmps32
    go_wp2_with fail
    go_region_held3 (fun w' => w'.cell? ⟨h.b, 2, none⟩ = some (.string h.p) ∧ w'.cell? ⟨h.b, 3, none⟩ = some (.int .i64 h.k) ∧ w'.cell? ⟨h.b, 4, none⟩ = some (.int .i64 h.f) ∧ w'.cell? ⟨w.heap.size, 0, none⟩ = some (.int .i64 ck) ∧ w'.cell? ⟨w.heap.size, 1, none⟩ = some (.string cp)) (first | go_keep | exact ⟨x2, x3, x4, b0, b1⟩)
      (first
        | (go_at_call 61; refine (HC.out _ (HG.out.below (below_drew HB0.out))).mono ?_; rintro e w1 ⟨rfl, hb1⟩
           clear x0 x1 x2 x3 x4 b0 b1 b2 b3
           have HB1 : Hid (Below w.heap.size w w1) := xtrans2 HB0.out (of_drew hb1)
           obtain ⟨b0, b1, b2, b3⟩ := cells_4 (kept_block (of_drew hb1) HX0.out)
           obtain ⟨x0, x1, x2, x3, x4⟩ := cells_5 (HH.out.below HB1.out)
           clear hb1))
    go_wp2_with fail
    go_ret
    exact ⟨rfl, HB1.out⟩
/-- A watch that is for a change lies on the way to it. -/
theorem covers_way {k ck : Int} {wp cp : ByteArray} (h : covers k wp ck cp = true) : (parse wp).2 <+: (parse cp).2 ∧ (parse wp).1 = 0 ∧ (parse cp).1 = 0 := by
  unfold covers at h
  simp only [Bool.and_eq_true] at h
  obtain ⟨⟨⟨h1, h2⟩, h3⟩, h4⟩ := h
  have p1 : (parse wp).1 = 0 := by simpa [isP] using h1
  have p2 : (parse cp).1 = 0 := by simpa [isP] using h3
  refine ⟨?_, p1, p2⟩
  have e1 : parse wp = (0, (parse wp).2) := by rw [← p1]
  have e2 : parse cp = (0, (parse cp).2) := by rw [← p2]
  have heq : eqB cp wp = true → (parse wp).2 <+: (parse cp).2 := fun he => by
    have : cp = wp := by
      unfold eqB at he
      rw [beq_iff_eq, ByteArray.toList_eq, ByteArray.toList_eq] at he
      exact ByteArray.ext (Array.ext' he)
    rw [this]
    exact List.prefix_refl _
  have hbe : belB wp cp = true → (parse wp).2 <+: (parse cp).2 := fun he => by
    unfold belB at he
    have hb := of_decide_eq_true he
    exact ⟨_, by rw [← hb.2]; exact List.take_append_drop _ _⟩
  have hch : childB wp cp = true → (parse wp).2 <+: (parse cp).2 := fun he => by
    unfold childB at he
    rw [e2] at he
    simp only [Bool.and_eq_true] at he
    obtain ⟨_, he⟩ := he
    rw [beq_iff_eq, ByteArray.toList_eq, ByteArray.toList_eq] at he
    have hw : placeB ((parse cp).2.take ((parse cp).2.length - 1)) = wp := ByteArray.ext (Array.ext' he)
    obtain ⟨hl, ha⟩ := parse_len e2
    have hp := parse_place (xs := (parse cp).2.take ((parse cp).2.length - 1)) (by rw [List.length_take]; omega) (by rw [List.all_eq_true] at ha ⊢; exact fun x hx => ha x (List.mem_of_mem_take hx))
    rw [hw] at hp
    rw [hp]
    exact List.take_prefix _ _
  unfold cov at h4
  split at h4
  · exact heq h4
  · split at h4
    · simp only [Bool.and_eq_true, Bool.or_eq_true] at h4
      exact h4.2.elim heq hch
    · split at h4
      · simp only [Bool.or_eq_true] at h4
        exact h4.elim heq hbe
      · cases h4
theorem part_perm {α : Type} (P : α → Bool) (l : List α) : (l.filter P ++ l.filter (fun x => !P x)).Perm l := by
  induction l with
  | nil => exact List.Perm.refl _
  | cons a r ih =>
    cases e : P a
    · rw [List.filter_cons, List.filter_cons, e]
      simp only [Bool.false_eq_true, if_false, Bool.not_false, if_true]
      exact List.perm_middle.trans (ih.cons a)
    · rw [List.filter_cons, List.filter_cons, e]
      simp only [if_true, Bool.not_true, Bool.false_eq_true, if_false, List.cons_append]
      exact ih.cons a
def onWay (p : Way) (ns : List ByteArray) (h : He) : Bool := decide (h.way.take p.length = p) && decide (p.length ≤ h.way.length) && decide (h.way.length ≤ (p ++ ns).length) && decide ((p ++ ns).take h.way.length = h.way)
theorem onWay_iff {p : Way} {ns : List ByteArray} {h : He} : onWay p ns h = true ↔ p <+: h.way ∧ h.way <+: p ++ ns := by
  unfold onWay
  simp only [Bool.and_eq_true, decide_eq_true_eq, List.prefix_iff_eq_take]
  constructor
  · rintro ⟨⟨⟨h1, h2⟩, h3⟩, h4⟩
    exact ⟨h1.symm, h4.symm⟩
  · rintro ⟨h1, h2⟩
    refine ⟨⟨⟨h1.symm, ?_⟩, ?_⟩, h2.symm⟩
    · have := congrArg List.length h1
      rw [List.length_take] at this
      omega
    · have := congrArg List.length h2
      rw [List.length_take] at this
      omega
theorem pre_one {p q : Way} {n : ByteArray} {r : List ByteArray} (h1 : p <+: q) (h2 : q <+: p ++ n :: r) (hne : q ≠ p) : p ++ [n] <+: q := by
  obtain ⟨t, rfl⟩ := h1
  rw [List.prefix_append_right_inj] at h2
  cases t with
  | nil => exact absurd (List.append_nil p) hne
  | cons m t =>
    rw [List.cons_prefix_cons] at h2
    obtain ⟨rfl, _⟩ := h2
    exact ⟨t, by simp⟩
/-- The watches on a way are just those whose own way is a part of it. -/
theorem along_perm {D : List Way} {hs : List He} (hcls : ∀ h ∈ hs, ∀ q, q <+: h.way → q ∈ D) (ns : List ByteArray) (p : Way) : (alongH D hs p ns).Perm (hs.filter (onWay p ns)) := by
  induction ns generalizing p with
  | nil =>
    have : hs.filter (onWay p []) = here hs p := by
      unfold here
      apply List.filter_congr
      intro x _
      rw [Bool.eq_iff_iff, onWay_iff, decide_eq_true_eq, List.append_nil]
      constructor
      · rintro ⟨h1, h2⟩
        exact h2.eq_of_length_le h1.length_le
      · intro h
        rw [h]
        exact ⟨List.prefix_refl _, List.prefix_refl _⟩
    rw [this]
    exact List.Perm.refl _
  | cons n r ih =>
    have h1 := (part_perm (fun h : He => decide (h.way = p)) (hs.filter (onWay p (n :: r)))).symm
    have e1 : (hs.filter (onWay p (n :: r))).filter (fun h => decide (h.way = p)) = here hs p := by
      rw [List.filter_filter]
      unfold here
      apply List.filter_congr
      intro x _
      rw [Bool.eq_iff_iff, Bool.and_eq_true, onWay_iff, decide_eq_true_eq]
      constructor
      · exact fun h => h.1
      · intro h
        refine ⟨h, ?_⟩
        rw [h]
        exact ⟨List.prefix_refl _, List.prefix_append _ _⟩
    have e2 : (hs.filter (onWay p (n :: r))).filter (fun h => !decide (h.way = p)) = hs.filter (onWay (p ++ [n]) r) := by
      rw [List.filter_filter]
      apply List.filter_congr
      intro x _
      rw [Bool.eq_iff_iff, Bool.and_eq_true, onWay_iff, onWay_iff, List.append_assoc]
      simp only [Bool.not_eq_true', decide_eq_false_iff_not, List.cons_append, List.nil_append]
      constructor
      · rintro ⟨h1, h2, h3⟩
        exact ⟨pre_one h2 h3 h1, h3⟩
      · rintro ⟨h1, h2⟩
        refine ⟨fun e => ?_, (List.prefix_append p [n]).trans h1, h2⟩
        have h9 := h1.length_le
        rw [e, List.length_append, List.length_singleton] at h9
        omega
    rw [e1, e2] at h1
    show (here hs p ++ if inD D (p ++ [n]) then alongH D hs (p ++ [n]) r else []).Perm _
    by_cases hin : p ++ [n] ∈ D
    · rw [if_pos (inD_iff.2 hin)]
      exact ((List.Perm.refl _).append (ih (p ++ [n]))).trans h1.symm
    · have e3 : hs.filter (onWay (p ++ [n]) r) = [] := by
        rw [List.filter_eq_nil_iff]
        intro x hx hw
        exact hin (hcls x hx _ (onWay_iff.1 hw).1)
      rw [inD_not hin]
      rw [e3] at h1
      exact h1.symm
/-- What Match says. -/
def matT (hs : List He) (stamp ck : Int) (cp : ByteArray) : List Tg := (hs.filter (matH stamp ck cp)).map (fun h => (h.s, h.i))
theorem match_perm {D : List Way} {hs : List He} (hcls : ∀ h ∈ hs, ∀ q, q <+: h.way → q ∈ D) {stamp ck : Int} {cp : ByteArray} (hp : (parse cp).1 = 0) : ((alongH D hs [] (parse cp).2).filter (matH stamp ck cp)).Perm (hs.filter (matH stamp ck cp)) := by
  have h1 := (along_perm hcls (parse cp).2 []).filter (matH stamp ck cp)
  have e : (hs.filter (onWay [] (parse cp).2)).filter (matH stamp ck cp) = hs.filter (matH stamp ck cp) := by
    rw [List.filter_filter]
    apply List.filter_congr
    intro x _
    rw [Bool.eq_iff_iff, Bool.and_eq_true]
    constructor
    · exact fun h => h.1
    · intro h
      refine ⟨h, onWay_iff.2 ⟨List.nil_prefix, ?_⟩⟩
      unfold matH at h
      rw [Bool.and_eq_true] at h
      exact (covers_way h.2).1
  rw [e] at h1
  exact h1
theorem match_none {hs : List He} {stamp ck : Int} {cp : ByteArray} (hp : (parse cp).1 ≠ 0) : matT hs stamp ck cp = [] := by
  unfold matT
  rw [List.map_eq_nil_iff, List.filter_eq_nil_iff]
  intro x _ h
  unfold matH at h
  rw [Bool.and_eq_true] at h
  exact hp (covers_way h.2).2.2
/-- What is sorted is what Match says. -/
theorem match_sorted {hs : List He} (ho : Ord hs) {stamp ck : Int} {cp : ByteArray} {us : List Tg} (hp : us.Perm (matT hs stamp ck cp)) (hs' : us.Pairwise (fun a b => befT b a = false)) : us = matT hs stamp ck cp := by
  refine List.Perm.eq_of_pairwise (le := fun a b => befT b a = false) (fun a b _ _ h1 h2 => ?_) hs' ?_ hp
  · unfold befT at h1 h2
    by_cases e : a.1 = b.1 ∧ a.2 = b.2
    · exact Prod.ext e.1 e.2
    · have := bef_total h2 e
      rw [h1] at this
      cases this
  · unfold matT
    rw [List.pairwise_map]
    exact (ho.filter _).imp (fun {a b} h => bef_asymm h)
end Go.Proofs.YtbblckcjedjbcaaGreatDoor
