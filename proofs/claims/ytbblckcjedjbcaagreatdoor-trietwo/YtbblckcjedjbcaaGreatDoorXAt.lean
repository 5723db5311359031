import Derived.Test.YtbblckcjedjbcaaGreatDoorXMatchT
import Derived.Maps.RangeWalk
namespace Go.Proofs.YtbblckcjedjbcaaGreatDoor
open Go.RowKit Go.Maps Go.Sort
set_option linter.unusedVariables false
set_option linter.unusedSimpArgs false

def preB (p q : Way) : Bool := decide (q.take p.length = p)
theorem preB_iff {p q : Way} : preB p q = true ↔ p <+: q := by
  unfold preB
  rw [decide_eq_true_eq, List.prefix_iff_eq_take]
  exact eq_comm
def cnt (D : List Way) (p : Way) : Nat := (D.filter (preB p)).length
theorem sum_one {K : List ByteArray} (hK : K.Nodup) {x : ByteArray} (hx : x ∈ K) : (K.map (fun k => if x = k then 1 else 0)).sum = 1 := by
  induction K with
  | nil => cases hx
  | cons a r ih =>
    obtain ⟨h1, h2⟩ := List.nodup_cons.1 hK
    rw [List.map_cons, List.sum_cons]
    rcases List.mem_cons.1 hx with rfl | hx
    · have : (r.map (fun k => if x = k then 1 else 0)).sum = 0 := by
        have : r.map (fun k => if x = k then 1 else 0) = r.map (fun _ => 0) := List.map_congr_left (fun k hk => if_neg (fun e => h1 (by rw [e]; exact hk)))
        rw [this]
        clear this ih hK h1 h2
        induction r with
        | nil => rfl
        | cons b r ih => simpa using ih
      rw [this, if_pos rfl]
    · rw [ih h2 hx, if_neg (fun e => h1 (by rw [← e]; exact hx))]
theorem sum_add (K : List ByteArray) (f g : ByteArray → Nat) : (K.map (fun k => f k + g k)).sum = (K.map f).sum + (K.map g).sum := by
  induction K with
  | nil => rfl
  | cons a r ih => simp only [List.map_cons, List.sum_cons, ih]; omega
theorem count_keys {L : List Way} {K : List ByteArray} (hK : K.Nodup) (f : Way → ByteArray) (h : ∀ q ∈ L, f q ∈ K) : L.length = (K.map (fun k => (L.filter (fun q => decide (f q = k))).length)).sum := by
  induction L with
  | nil =>
    have : K.map (fun k => ([] : List Way).length) = K.map (fun _ => 0) := rfl
    simp only [List.filter_nil]
    rw [this]
    clear hK h this
    induction K with
    | nil => rfl
    | cons a r ih => simpa using ih
  | cons q r ih =>
    have h1 := ih (fun x hx => h x (List.mem_cons_of_mem _ hx))
    have h2 := sum_one hK (h q List.mem_cons_self)
    have e : K.map (fun k => ((q :: r).filter (fun q => decide (f q = k))).length) = K.map (fun k => (if f q = k then 1 else 0) + (r.filter (fun q => decide (f q = k))).length) := List.map_congr_left (fun k hk => by
      rw [List.filter_cons]
      by_cases e : f q = k
      · simp [e]; omega
      · simp [e])
    rw [e, sum_add, h2, List.length_cons, ← h1]
    omega
theorem pre_in {D : List Way} (hup : ∀ p n, p ++ [n] ∈ D → p ∈ D) : ∀ (k : Nat) (r q : Way), r.length = k → q ++ r ∈ D → q ∈ D := by
  intro k
  induction k with
  | zero =>
    intro r q hr h
    have : r = [] := List.eq_nil_of_length_eq_zero hr
    subst this
    simpa using h
  | succ k ih =>
    intro r q hr h
    rcases List.eq_nil_or_concat r with rfl | ⟨r', n, rfl⟩
    · simp at hr
    · rw [List.concat_eq_append, ← List.append_assoc] at h
      exact ih r' q (by simpa using hr) (hup _ _ h)
theorem one_in {D : List Way} (hd : D.Nodup) {p : Way} (hp : p ∈ D) : (D.filter (fun q => decide (q = p))).length = 1 := by
  induction D with
  | nil => cases hp
  | cons a r ih =>
    obtain ⟨h1, h2⟩ := List.nodup_cons.1 hd
    rw [List.filter_cons]
    rcases List.mem_cons.1 hp with rfl | hp
    · have : r.filter (fun q => decide (q = p)) = [] := by
        rw [List.filter_eq_nil_iff]
        intro x hx e
        have e' : x = p := by simpa using e
        exact h1 (by rw [← e']; exact hx)
      rw [this]
      simp
    · have : ¬ a = p := fun e => h1 (by rw [e]; exact hp)
      simp only [this, decide_false, Bool.false_eq_true, if_false]
      exact ih h2 hp
/-- The name by which a way goes on behind p. -/
def nxt (p q : Way) : ByteArray := (q.drop p.length).head?.getD ⟨#[]⟩
theorem nxt_of (p : Way) (n : ByteArray) (t : Way) : nxt p (p ++ n :: t) = n := by
  unfold nxt
  rw [List.drop_left]
  rfl
theorem way_split {p q : Way} (h : p <+: q) (hne : q ≠ p) : ∃ n t, q = p ++ n :: t := by
  obtain ⟨t, rfl⟩ := h
  cases t with
  | nil => exact absurd (List.append_nil p) hne
  | cons n t => exact ⟨n, t, rfl⟩
theorem cnt_kids {D : List Way} (hd : D.Nodup) (hup : ∀ p n, p ++ [n] ∈ D → p ∈ D) {p : Way} (hp : p ∈ D) : cnt D p = 1 + ((kidsOf D p).map (fun n => cnt D (p ++ [n]))).sum := by
  have h1 := (part_perm (fun q : Way => decide (q = p)) (D.filter (preB p))).length_eq
  rw [List.length_append] at h1
  have e1 : (D.filter (preB p)).filter (fun q => decide (q = p)) = D.filter (fun q => decide (q = p)) := by
    rw [List.filter_filter]
    apply List.filter_congr
    intro q _
    rw [Bool.eq_iff_iff, Bool.and_eq_true]
    constructor
    · exact fun h => h.1
    · intro h
      refine ⟨h, preB_iff.2 ?_⟩
      have e : q = p := by simpa using h
      rw [e]
      exact List.prefix_refl _
  rw [e1, one_in hd hp] at h1
  have hL : ∀ q, q ∈ (D.filter (preB p)).filter (fun q => !decide (q = p)) ↔ q ∈ D ∧ p <+: q ∧ q ≠ p := fun q => by
    rw [List.mem_filter, List.mem_filter, preB_iff]
    simp only [Bool.not_eq_true', decide_eq_false_iff_not]
    exact and_assoc
  have h2 := count_keys (L := (D.filter (preB p)).filter (fun q => !decide (q = p))) (kids_nodup hd p) (nxt p) (fun q hq => by
    obtain ⟨h3, h4, h5⟩ := (hL q).1 hq
    obtain ⟨n, t, rfl⟩ := way_split h4 h5
    rw [nxt_of, kids_mem]
    exact pre_in hup t.length t _ rfl (by rw [List.append_assoc]; exact h3))
  have e2 : (kidsOf D p).map (fun k => (((D.filter (preB p)).filter (fun q => !decide (q = p))).filter (fun q => decide (nxt p q = k))).length) = (kidsOf D p).map (fun n => cnt D (p ++ [n])) := List.map_congr_left (fun n hn => by
    unfold cnt
    congr 1
    rw [List.filter_filter, List.filter_filter]
    apply List.filter_congr
    intro q hq
    rw [Bool.eq_iff_iff]
    simp only [Bool.and_eq_true, decide_eq_true_eq, Bool.not_eq_true', decide_eq_false_iff_not]
    rw [preB_iff, preB_iff]
    constructor
    · rintro ⟨⟨h3, h4⟩, h5⟩
      obtain ⟨m, t, rfl⟩ := way_split h5 h4
      rw [nxt_of] at h3
      subst h3
      exact ⟨t, by simp⟩
    · rintro ⟨t, rfl⟩
      rw [List.append_assoc]
      refine ⟨⟨nxt_of p n t, fun e => ?_⟩, List.prefix_append _ _⟩
      have := congrArg List.length e
      simp at this)
  rw [e2] at h2
  unfold cnt at h2 ⊢
  omega
theorem cnt_le (D : List Way) (p : Way) : cnt D p ≤ D.length := List.length_filter_le _ _
theorem sum_perm {K L : List (List UInt8)} (h : K.Perm L) (f : List UInt8 → Nat) : (K.map f).sum = (L.map f).sum := (h.map f).sum_nat
theorem grownNone {w w' : World} (h : Below w.heap.size w w') : w.grownBy w' none := ⟨h.os, h.tape, h.output, h.size, fun k hk _ => h.block k hk⟩
theorem rangeNil (w : World) : (Instr.range 74 (.map none)).run Tryz.prog w = .ok (.pointer (some ⟨w.heap.size, 0, none⟩)) (w.alloc (.mapIter none 0 #[] 0)) := by
  simp [Instr.range, run_underlying Tryz.underlying74]
theorem nextNil {w : World} {r : Nat} (h : w.heap[r]? = some (.mapIter none 0 #[] 0)) (ty : TypeId) : (Instr.next (.pointer (some ⟨r, 0, none⟩)) false ty).run Tryz.prog w = .ok (.tuple #[.bool false]) w := by
  have hg : (getObj r).run Tryz.prog w = .ok (.mapIter none 0 #[] 0) w := by simp [getObj, Sem.run, h]
  simp [Instr.next, hg]
def wayOf (p : Way) (l : List UInt8) : Way := p ++ [⟨l.toArray⟩]
def sumC (D : List Way) (p : Way) (ls : List (List UInt8)) : Nat := (ls.map (fun l => cnt D (wayOf p l))).sum
theorem sumC_snoc (D : List Way) (p : Way) (ls : List (List UInt8)) (l : List UInt8) : sumC D p (ls ++ [l]) = sumC D p ls + cnt D (wayOf p l) := by
  unfold sumC
  rw [List.map_append, List.sum_append]
  simp
theorem sumC_all {D : List Way} (hd : D.Nodup) (hup : ∀ p n, p ++ [n] ∈ D → p ∈ D) {p : Way} (hp : p ∈ D) {ls : List (List UInt8)} (h : ls.Perm ((kidsOf D p).map (fun n => n.data.toList))) : 1 + sumC D p ls = cnt D p := by
  rw [cnt_kids hd hup hp]
  unfold sumC
  rw [sum_perm h, List.map_map]
  congr 2
theorem wayOf_inj {p : Way} {a b : List UInt8} (h : wayOf p a = wayOf p b) : a = b := by
  unfold wayOf at h
  have h1 := List.append_cancel_left h
  simpa using h1
theorem sum_le {α : Type} {f : α → Nat} {M : Nat} (h : ∀ x, f x ≤ M) (l : List α) : (l.map f).sum ≤ l.length * M := by
  induction l with
  | nil => simp
  | cons a r ih =>
    rw [List.map_cons, List.sum_cons, List.length_cons, Nat.add_mul, Nat.one_mul]
    have := h a
    omega
set_option maxHeartbeats 32000000 in
set_option maxRecDepth 100000 in
theorem size_step (w : World) (y : Lay) (D : List Way) (hs : List He) (p : Way) (hT : Tr w y D hs) (hp : p ∈ D) (hD : D.length ≤ 100000) (hrec : ∀ (w1 : World) (n : ByteArray), Below w.heap.size w w1 → p ++ [n] ∈ D → Calls Tryz.prog 56 #[ndV (y.β (p ++ [n]))] w1 fun e w' => e = .returned (.int .i64 (cnt D (p ++ [n]) : Nat)) ∧ Below w1.heap.size w1 w') :
    Calls Tryz.prog 56 #[ndV (y.β p)] w fun e w' => e = .returned (.int .i64 (cnt D p : Nat)) ∧ Below w.heap.size w w' := by
  obtain ⟨c0, c1, _, fz⟩ := (hT.nd p hp).cells
  rcases hT.kids p hp with ⟨hm, hno⟩ | ⟨mb, Dm, hm, hmp, hkr⟩
  · rw [hm] at c0
    have HC1 : Hid (cnt D p = 1) := by
      have h1 := cnt_kids hT.dn hT.up hp
      have h2 : kidsOf D p = [] := by
        rw [List.eq_nil_iff_forall_not_mem]
        intro n hn
        exact hno n (kids_mem.1 hn)
      rw [h2] at h1
      exact h1
    have hrn := rangeNil w
    obtain ⟨W, hW⟩ : ∃ z, w.alloc (.mapIter none 0 #[] 0) = z := ⟨_, rfl⟩
    rw [hW] at hrn
    have HX : Hid (W.heap[w.heap.size]? = some (.mapIter none 0 #[] 0)) := by show _ = _; rw [← hW]; exact heap_alloc_new _ _
    have HB : Hid (Below w.heap.size w W) := by show Below _ _ _; rw [← hW]; exact (Below.refl _ _).alloc (Nat.le_refl _) _
    have hnx := fun ty => nextNil HX.out ty
    clear hT hp hrec hno hm hW fz c1 hD
    go_enter Tryz.func56, Tryz.ntmps56
    go_wp2_with fail
    refine wp_loop_rounds 1 ?_
    rw [rounds_succ]
    go_wp2_with fail
    go_ret
    exact ⟨by rw [HC1.out]; rfl, HB.out⟩
  · rw [hm] at c0
    have hbl := hmp.lt
    have HKR : Hid _ := hkr
    have HT : Hid _ := hT
    have HDN : Hid (D.Nodup) := hT.dn
    have HSA : Hid (∀ ls : List (List UInt8), ls.Perm (strKeys Dm) → 1 + sumC D p ls = cnt D p) := fun ls h => sumC_all hT.dn hT.up hp (h.trans (hkr.keys hT.dn).symm)
    have HREC : Hid _ := hrec
    have HMP : Hid _ := hmp
    obtain ⟨sz, hsz⟩ : ∃ sz, Maps.size Dm = sz := ⟨_, rfl⟩
    have hszl : sz ≤ 100000 := by rw [← hsz, hkr.size hT.dn]; have := kids_len D p; omega
    rw [hsz] at hmp
    have HBD : Hid (∀ ls : List (List UInt8), ls.Nodup → (∀ l ∈ ls, wayOf p l ∈ D) → sumC D p ls ≤ 10000000000) := fun ls hn hls => by
      have h1 : (ls.map (wayOf p)).length ≤ D.length := List.Nodup.length_le_of_subset (List.Pairwise.map _ (fun a b hab e => hab (wayOf_inj e)) hn) (fun q hq => by
        obtain ⟨l, hl, rfl⟩ := List.mem_map.1 hq
        exact hls l hl)
      rw [List.length_map] at h1
      have h2 := sum_le (f := fun l => cnt D (wayOf p l)) (M := D.length) (fun l => cnt_le D _) ls
      have h3 : ls.length * D.length ≤ 100000 * 100000 := Nat.mul_le_mul (by omega) hD
      unfold sumC
      omega
    clear hT hrec hkr fz c1
    go_enter Tryz.func56, Tryz.ntmps56
    go_wp2_with (first
      | (at_range; go_loud (refine wpList_range_own _ rfl _ 74 rfl 9 120 keyed Tryz.underlying74 raw mb sz Dm rfl hmp ?_; intro w0 hrg0 hg0 hs0))
      | fail)
    go_frame
    go_loopw [3, 5] (fun v k wr => ∃ (left : Lit → Bool) (cn : Nat) (all : List (List UInt8)), wr.ranges Tryz.prog 9 raw mb w.heap.size sz Dm left cn ∧ v = .int .i64 ((1 + sumC D p all : Nat) : Int) ∧ Hid (∀ l ∈ all, wayOf p l ∈ D) ∧ Collected Dm left all ∧ Hid (Below w.heap.size w wr)) (fun _ _ wr => wr.rangeLeft mb w.heap.size)
    case atStart => exact ⟨_, _, [], hrg0, rfl, fun l hl => (by cases hl), Collected.start Dm, (Below.refl _ _).grown hg0 (Nat.le_refl _) (fun j hj => by cases hj)⟩
    case round =>
      obtain ⟨left, cn, all, hrg, rfl, HAL, hC, HB⟩ := hrel
      have hsl := HBD.out all hC.1 HAL.out
      go_wp2_with (first
        | (at_next; go_loud (refine wpList_next_ranges _ rfl _ rfl 9 keyed raw encStr id (fun key kl hk => by obtain ⟨x, hx, _⟩ := Maps.keyOf_str Tryz.underlying9 hk; exact ⟨x, hx⟩) (fun v y hv => ⟨v, rfl⟩) mb w.heap.size sz _ _ _ rfl hrg ?_ ?_))
        | fail)
      · intro hc0 hl0
        have HP : Hid (all.Perm (strKeys Dm)) := hC.perm HMP.out keyed Tryz.underlying9 hl0
        have HE : Hid (1 + sumC D p all = cnt D p) := HSA.out all HP.out
        clear hrg hC hc0 hl0
        go_wp2_with fail
        go_ret
        refine ⟨?_, HB.out⟩
        rw [← HE.out]
        rfl
      · intro x c kl yd yp w2 cnt2 hkey hlk hv hat hrg2 hlt hg2 hs2 hen
        obtain ⟨x', ex, rfl, _⟩ := Maps.keyOf_str Tryz.underlying9 hkey
        obtain rfl : x = x' := encStr_inj ex
        have HB2 : Hid (Below w.heap.size w w2) := HB.out.grown hg2 HB.out.size (fun j hj => by cases hj; exact Nat.le_refl _)
        have hin : wayOf p x ∈ D := by
          have h1 : Maps.has Dm (.string x) = true := by
            cases hh : Maps.has Dm (.string x) with
            | true => rfl
            | false =>
              have a1 := hat (.map [])
              have a2 := hat (.held undef)
              rw [Maps.atKey_of_not_has hh] at a1 a2
              rw [← a1] at a2
              cases a2
          have h2 := HKR.out.has ⟨x.toArray⟩
          have e : ky ⟨x.toArray⟩ = .string x := by simp [ky]
          rw [e] at h2
          exact h2.1 h1
        have hc : c = ndV (y.β (wayOf p x)) := by
          have h2 := HKR.out.look ⟨x.toArray⟩ (.map []) hin
          have e : ky ⟨x.toArray⟩ = .string x := by simp [ky]
          rw [e, hat] at h2
          rw [h2] at hv
          exact raw_inv hv
        subst hc
        have HRC : Hid (Calls Tryz.prog 56 #[ndV (y.β (wayOf p x))] w2 fun e w' => e = .returned (.int .i64 (cnt D (wayOf p x) : Nat)) ∧ Below w2.heap.size w2 w') := HREC.out w2 ⟨x.toArray⟩ HB2.out hin
        have HAL2 : Hid (∀ l ∈ all ++ [x], wayOf p l ∈ D) := fun l hl => by
          rcases List.mem_append.1 hl with h | h
          · exact HAL.out l h
          · have : l = x := by simpa using h
            rw [this]; exact hin
        have hsl2 := HBD.out (all ++ [x]) (hC.step hlk hat).1 HAL2.out
        rw [sumC_snoc] at hsl2
        have HSN : Hid _ := sumC_snoc D p all x
        clear hs2 hv hin
        go_wp2_with fail
        refine Calls.mono HRC.out ?_
        rintro e w3 ⟨rfl, hb3⟩
        have hrg3 := hrg2.kept (grownNone hb3) (by simp) (by simp)
        have HB3 : Hid (Below w.heap.size w w3) := xtrans2 HB2.out hb3
        clear hb3
        go_wp2_with fail
        go_roundw
        case rel =>
          refine ⟨_, cnt2, all ++ [x], hrg3, ?_, HAL2.out, hC.step hlk hat, HB3.out⟩
          rw [HSN.out]
          go_num
        case measure => rw [hrg3.left_eq, hrg.left_eq]; exact hlt
theorem size_any : ∀ (d : Nat) (w : World) (y : Lay) (D : List Way) (hs : List He) (p : Way), Tr w y D hs → p ∈ D → D.length ≤ 100000 → (∀ q ∈ D, p <+: q → q.length ≤ p.length + d) →
    Calls Tryz.prog 56 #[ndV (y.β p)] w fun e w' => e = .returned (.int .i64 (cnt D p : Nat)) ∧ Below w.heap.size w w' := by
  intro d
  induction d with
  | zero =>
    intro w y D hs p hT hp hD hd
    refine size_step w y D hs p hT hp hD (fun w1 n hb hn => ?_)
    have := hd _ hn (List.prefix_append p [n])
    rw [List.length_append, List.length_singleton] at this
    omega
  | succ d ih =>
    intro w y D hs p hT hp hD hd
    refine size_step w y D hs p hT hp hD (fun w1 n hb hn => ?_)
    refine ih w1 y D hs (p ++ [n]) (hT.below hb) hn hD (fun q hq hpre => ?_)
    have h1 := hd q hq ((List.prefix_append p [n]).trans hpre)
    rw [List.length_append, List.length_singleton]
    omega
end Go.Proofs.YtbblckcjedjbcaaGreatDoor
namespace Go.Proofs.YtbblckcjedjbcaaGreatDoor
open Go.RowKit Go.Maps
set_option linter.unusedVariables false
set_option linter.unusedSimpArgs false

/-- A session's watch. -/
structure On where
  s : Int
  i : Int
  p : ByteArray
  k : Int
  f : Int
abbrev He.on (h : He) : On := ⟨h.s, h.i, h.p, h.k, h.f⟩
abbrev befO (a b : On) : Bool := befB a.s a.i b.s b.i
def OrdO (L : List On) : Prop := L.Pairwise (fun a b => befO a b = true)
def insO (o : On) (L : List On) : List On := L.filter (fun x => befO x o) ++ o :: L.filter (fun x => !befO x o)
theorem ins_on (h : He) (hs : List He) : (insH h hs).map He.on = insO h.on (hs.map He.on) := by
  unfold insH insO
  rw [List.map_append, List.map_cons, List.filter_map, List.filter_map]
  rfl
def hasO (L : List On) (s i : Int) : Bool := L.any (fun o => decide (o.s = s) && decide (o.i = i))
theorem hasO_iff {L : List On} {s i : Int} : hasO L s i = true ↔ ∃ o ∈ L, o.s = s ∧ o.i = i := by
  unfold hasO
  rw [List.any_eq_true]
  simp
def ofO (L : List On) (s : Int) : List On := L.filter (fun o => decide (o.s = s))
theorem of_on (hs : List He) (s : Int) : (ofS hs s).map He.on = ofO (hs.map He.on) s := by
  unfold ofS ofO
  rw [List.filter_map]
  rfl
/-- What Add answers. -/
def addC (L : List On) (o : On) : Int :=
  if numsB o.s o.i o.f then 3 else if (parse o.p).1 ≠ 0 then 10 else if o.k < 1 ∨ o.k > 3 ∨ hasO L o.s o.i = true then 90 else if 4 ≤ (ofO L o.s).length then 46 else 0
theorem may_on (hs : List He) (o : On) : mayL (ofS hs o.s) false o.s o.i o.p o.k o.f = addC (hs.map He.on) o := by
  have h1 : hasH (ofS hs o.s) o.s o.i = hasO (hs.map He.on) o.s o.i := by
    rw [Bool.eq_iff_iff, hasH_iff, hasO_iff]
    constructor
    · rintro ⟨h, hh, h1, h2⟩
      exact ⟨h.on, List.mem_map.2 ⟨h, (ofS_mem.1 hh).1, rfl⟩, h1, h2⟩
    · rintro ⟨x, hx, h1, h2⟩
      obtain ⟨h, hh, rfl⟩ := List.mem_map.1 hx
      exact ⟨h, ofS_mem.2 ⟨hh, h1⟩, h1, h2⟩
  have h2 : (ofS hs o.s).length = (ofO (hs.map He.on) o.s).length := by rw [← of_on, List.length_map]
  unfold mayL addC
  rw [h1, h2]
  simp
def matB (stamp ck : Int) (cp : ByteArray) (o : On) : Bool := decide (o.f < stamp) && covers o.k o.p ck cp
def matO (L : List On) (stamp ck : Int) (cp : ByteArray) : List Tg := (L.filter (matB stamp ck cp)).map (fun o => (o.s, o.i))
theorem mat_on (hs : List He) (stamp ck : Int) (cp : ByteArray) : matT hs stamp ck cp = matO (hs.map He.on) stamp ck cp := by
  unfold matT matO
  rw [List.filter_map, List.map_map]
  rfl
/-- The places that are watched, and all above them. -/
def closeO (L : List On) : List Way := L.foldl (fun D o => addW D [] (parse o.p).2) [[]]
theorem addD_nodup {D : List Way} {q : Way} (h : D.Nodup) : (addD D q).Nodup := by
  by_cases hq : q ∈ D
  · rw [addD_in hq]; exact h
  · rw [addD_out hq, List.nodup_append]
    refine ⟨h, by simp, fun a ha b hb e => hq ?_⟩
    have e2 : b = q := by simpa using hb
    rw [← e2, ← e]
    exact ha
theorem addW_nodup {ns : List ByteArray} {D : List Way} {p : Way} (h : D.Nodup) : (addW D p ns).Nodup := by
  induction ns generalizing D p with
  | nil => exact h
  | cons n r ih => exact ih (addD_nodup h)
theorem close_fold (L : List On) (D : List Way) (hd : D.Nodup) (h0 : [] ∈ D) : (L.foldl (fun D o => addW D [] (parse o.p).2) D).Nodup ∧ ∀ q, q ∈ L.foldl (fun D o => addW D [] (parse o.p).2) D ↔ q ∈ D ∨ ∃ o ∈ L, q <+: (parse o.p).2 := by
  induction L generalizing D with
  | nil => exact ⟨hd, fun q => by simp⟩
  | cons o r ih =>
    obtain ⟨h1, h2⟩ := ih (addW D [] (parse o.p).2) (addW_nodup hd) (addW_mem h0)
    refine ⟨h1, fun q => ?_⟩
    show q ∈ r.foldl _ _ ↔ _
    rw [h2, addW_iff]
    constructor
    · rintro ((h | ⟨t, h3, h4, e⟩) | ⟨x, hx, h⟩)
      · exact .inl h
      · exact .inr ⟨o, List.mem_cons_self, by rw [e]; exact h3⟩
      · exact .inr ⟨x, List.mem_cons_of_mem _ hx, h⟩
    · rintro (h | ⟨x, hx, h⟩)
      · exact .inl (.inl h)
      · rcases List.mem_cons.1 hx with rfl | hx
        · by_cases hq : q = []
          · exact .inl (.inl (by rw [hq]; exact h0))
          · exact .inl (.inr ⟨q, h, hq, rfl⟩)
        · exact .inr ⟨x, hx, h⟩
def sizO (L : List On) : Nat := (closeO L).length
theorem same_len {A B : List Way} (ha : A.Nodup) (hb : B.Nodup) (h : ∀ q, q ∈ A ↔ q ∈ B) : A.length = B.length := Nat.le_antisymm (List.Nodup.length_le_of_subset ha (fun q hq => (h q).1 hq)) (List.Nodup.length_le_of_subset hb (fun q hq => (h q).2 hq))
theorem siz_on {w : World} {B : Nat} {y : Lay} {D : List Way} {σ : Option Nat} {τ : Int → Value} {hs : List He} (h : TrieAt w B y D σ τ hs) : D.length = sizO (hs.map He.on) := by
  obtain ⟨h1, h2⟩ := close_fold (hs.map He.on) [[]] (by simp) (by simp)
  refine same_len h.tr.dn h1 (fun q => ?_)
  rw [h.cls]
  show _ ↔ q ∈ (hs.map He.on).foldl (fun D o => addW D [] (parse o.p).2) [[]]
  rw [h2]
  constructor
  · rintro (rfl | ⟨x, hx, hp⟩)
    · exact .inl (by simp)
    · exact .inr ⟨x.on, List.mem_map.2 ⟨x, hx, rfl⟩, hp⟩
  · rintro (h | ⟨o, ho, hp⟩)
    · exact .inl (by simpa using h)
    · obtain ⟨x, hx, rfl⟩ := List.mem_map.1 ho
      exact .inr ⟨x, hx, hp⟩
/-- At B lies a trie with these watches, within K. -/
def At (w : World) (K : Nat → Prop) (B : Nat) (L : List On) : Prop :=
  ∃ y D σ τ hs, TrieAt w B y D σ τ hs ∧ hs.map He.on = L ∧ (∀ k, Tf y D σ τ k → K k) ∧ (∀ h ∈ hs, K h.b) ∧ ∀ k, K k → k < w.heap.size
theorem At.keep {w w' : World} {K S : Nat → Prop} {B : Nat} {L : List On} (h : At w K B L) (hc : Chg w w' S) (hS : ∀ k, K k → ¬ S k) : At w' K B L := by
  obtain ⟨y, D, σ, τ, hs, hT, hL, hK, hH, hZ⟩ := h
  exact ⟨y, D, σ, τ, hs, hT.chg hc (fun k hk => hS k (hK k hk)) (fun x hx => hS _ (hH x hx)), hL, hK, hH, fun k hk => Nat.lt_of_lt_of_le (hZ k hk) hc.size⟩
theorem At.below {w w' : World} {K : Nat → Prop} {B : Nat} {L : List On} (h : At w K B L) (hb : Below w.heap.size w w') : At w' K B L := h.keep (Chg.of_below hb (fun _ => False)) (fun _ _ => id)
theorem At.ord {w : World} {K : Nat → Prop} {B : Nat} {L : List On} (h : At w K B L) : OrdO L := by
  obtain ⟨y, D, σ, τ, hs, hT, rfl, hK, hH, hZ⟩ := h
  exact List.pairwise_map.2 hT.tr.ord
theorem At.ok {w : World} {K : Nat → Prop} {B : Nat} {L : List On} (h : At w K B L) : ∀ o ∈ L, (parse o.p).1 = 0 := by
  obtain ⟨y, D, σ, τ, hs, hT, rfl, hK, hH, hZ⟩ := h
  intro o ho
  obtain ⟨x, hx, rfl⟩ := List.mem_map.1 ho
  have := hT.ok x hx
  show (parse x.p).1 = 0
  rw [this]
theorem At.lt {w : World} {K : Nat → Prop} {B : Nat} {L : List On} (h : At w K B L) : ∀ k, K k → k < w.heap.size := by
  obtain ⟨y, D, σ, τ, hs, hT, rfl, hK, hH, hZ⟩ := h
  exact hZ
theorem At.inK {w : World} {K : Nat → Prop} {B : Nat} {L : List On} (h : At w K B L) : K B := by
  obtain ⟨y, D, σ, τ, hs, hT, rfl, hK, hH, hZ⟩ := h
  exact hK B (.inl (.inl ⟨[], hT.tr.root, hT.top⟩))
set_option maxHeartbeats 3200000 in
theorem newA (w : World) :
    Calls Tryz.prog 15 #[] w fun e w' => e = .returned (ndV w.heap.size) ∧ w' = w.alloc (.cells #[.map none, .slice none 0 0, .map none] 81) := by
  go_enter Tryz.func15, Tryz.ntmps15
  go_wp2_with fail
  go_ret
  exact ⟨rfl, rfl⟩
theorem At.zero {w : World} {B : Nat} (hb : w.heap[B]? = some (.cells #[.map none, .slice none 0 0, .map none] 81 (0, 0))) : At w (fun k => k = B) B [] := by
  refine ⟨⟨fun _ => B, fun _ => none, fun _ => .slice none 0 0, .map none⟩, [[]], none, fun _ => .slice none 0 0, [], ⟨⟨List.Pairwise.nil, by simp, fun p n h => ?_, by simp, fun p hp n hn => ?_, fun p hp q hq _ => ?_, fun p hp => ?_, fun p hp => World.ownsRow_nil _ _ _ _, fun p hp q hq _ k hk => (by cases hk), fun p hp => .inl ⟨rfl, fun n hn => ?_⟩, fun p hp q hq _ k hk => (by cases hk), fun h hh => (by cases hh)⟩, rfl, rfl, ⟨fun s => World.ownsRow_nil _ _ _ _, fun s t _ k hk => (by cases hk), fun s _ => rfl, .inl ⟨rfl, rfl⟩⟩, fun s p hp k hk => (by cases hk), fun p hp k hk => (by cases hk), fun h hh => (by cases hh), fun q => by simp⟩, rfl, fun k hk => ?_, fun h hh => (by cases hh), fun k hk => by rw [hk]; exact lt_of_blk hb⟩
  · simp at h
  · have : p = [] := by simpa using hp
    subst this
    cases hn
  · have h1 : p = [] := by simpa using hp
    have h2 : q = [] := by simpa using hq
    rw [h1, h2]
  · have : p = [] := by simpa using hp
    subst this
    exact ⟨_, hb, rfl, rfl, fun _ => rfl⟩
  · simp at hn
  · rcases hk with (⟨p, hp, e⟩ | ⟨p, hp, e⟩ | ⟨p, hp, e⟩) | e | ⟨s, e⟩
    · exact e.symm
    · cases e
    · cases e
    · cases e
    · cases e
/-- The tables are none of it. -/
def Gl (K : Nat → Prop) : Prop := ¬ K 0 ∧ ¬ K 1
theorem Ground.lt {w : World} (h : Ground w) : 0 < w.heap.size ∧ 1 < w.heap.size := by
  refine ⟨World.block_lt_of_cell? _ _ (h.tab 0 (by omega)), ?_⟩
  obtain ⟨m, e⟩ := h.most
  exact World.block_lt_of_cell? _ _ e
/-- What a call of a trie leaves. -/
structure AtE (w w' : World) (K K' : Nat → Prop) : Prop where
  chg : Chg w w' K
  new : ∀ k, K' k → K k ∨ w.heap.size ≤ k
theorem AtE.gl {w w' : World} {K K' : Nat → Prop} (h : AtE w w' K K') (hg : Ground w) (hK : Gl K) : Gl K' ∧ Ground w' := by
  have h1 := hg.lt
  refine ⟨⟨fun e => ?_, fun e => ?_⟩, hg.chg h.chg hK.1 hK.2⟩
  · rcases h.new _ e with e | e
    · exact hK.1 e
    · omega
  · rcases h.new _ e with e | e
    · exact hK.2 e
    · omega
set_option maxHeartbeats 1600000 in
theorem addA (w : World) (K : Nat → Prop) (B : Nat) (L : List On) (o : On) (hA : At w K B L) (hg : Ground w) (hlen : L.length ≤ 1000) (hwf : wfI o.s) :
    Calls Tryz.prog 16 #[ndV B, .int .i64 o.s, watV o.i o.p o.k o.f] w fun e w' => e = .returned (.int .i64 (addC L o)) ∧ ∃ K', At w' K' B (if addC L o = 0 then insO o L else L) ∧ AtE w w' K K' := by
  obtain ⟨y, D, σ, τ, hs, hT, rfl, hK, hH, hZ⟩ := hA
  rw [List.length_map] at hlen
  by_cases h0 : addC (hs.map He.on) o = 0
  · rw [if_pos h0, h0]
    have h1 : mayL (ofS hs o.s) false o.s o.i o.p o.k o.f = 0 := by rw [may_on]; exact h0
    have hend : ∀ (e : Ending) (w' : World), (e = .returned (.int .i64 0) ∧ Added w B y D σ τ hs o.s o.i o.p o.k o.f w') → e = .returned (.int .i64 0) ∧ ∃ K', At w' K' B (insO o (hs.map He.on)) ∧ AtE w w' K K' := by
      rintro e w' ⟨he, b, y', D', σ', τ', hb, hT', hE⟩
      refine ⟨he, fun k => Tf y' D' σ' τ' k ∨ ∃ x ∈ insH ⟨b, o.s, o.i, o.p, o.k, o.f⟩ hs, x.b = k, ⟨y', D', σ', τ', _, hT', ?_, fun k hk => .inl hk, fun x hx => .inr ⟨x, hx, rfl⟩, fun k hk => ?_⟩, hE.chg.mono (fun k _ e => hK k e), fun k hk => ?_⟩
      · rw [ins_on]
      · rcases hk with (hk | hk) | ⟨x, hx, rfl⟩
        · exact hT'.tr.lt (.inl hk)
        · exact hT'.ses.lt hk
        · exact lt_of_blk (hT'.tr.held x hx)
      · rcases hk with hk | ⟨x, hx, rfl⟩
        · exact (hE.new k hk).imp (hK k) id
        · rcases ins_mem.1 hx with rfl | hx
          · exact .inr hb
          · exact .inl (hH x hx)
    cases σ with
    | none => exact (addT_none w B y D τ hs o.s o.i o.p o.k o.f hT hg hlen hwf h1).mono hend
    | some sb => exact (addT_some w B y D sb τ hs o.s o.i o.p o.k o.f hT hg hlen hwf h1).mono hend
  · rw [if_neg h0]
    have h1 : mayL (ofS hs o.s) false o.s o.i o.p o.k o.f ≠ 0 := by rw [may_on]; exact h0
    refine (add_no w B y D σ τ hs o.s o.i o.p o.k o.f hT hg hlen hwf h1).mono ?_
    rintro e w' ⟨he, hb⟩
    rw [may_on] at he
    exact ⟨he, K, ⟨y, D, σ, τ, hs, hT.below hb, rfl, hK, hH, fun k hk => Nat.lt_of_lt_of_le (hZ k hk) hb.size⟩, Chg.of_below hb _, fun k hk => .inl hk⟩
theorem matchA (w : World) (K : Nat → Prop) (B : Nat) (L : List On) (stamp ck : Int) (cp cd : ByteArray) (cv : Int) (hA : At w K B L) (hg : Ground w) (hlen : L.length ≤ 1000) :
    Calls Tryz.prog 13 #[ndV B, .int .i64 stamp, chV ck cp cd cv] w fun e w' => ∃ v, e = .returned v ∧ w'.ownsRow w.heap.size 34 2 v (matO L stamp ck cp).length (tgCs (matO L stamp ck cp)) ∧ Below w.heap.size w w' := by
  obtain ⟨y, D, σ, τ, hs, hT, rfl, hK, hH, hZ⟩ := hA
  rw [List.length_map] at hlen
  rw [← mat_on]
  by_cases hp : (parse cp).1 = 0
  · exact match_ok B y D σ τ hs stamp ck cp cd cv w hT hg hlen hp
  · refine (match_bad B stamp ck cp cd cv w hg hp).mono ?_
    rintro e w' ⟨he, hb⟩
    refine ⟨_, he, ?_, hb⟩
    rw [match_none hp]
    exact World.ownsRow_nil _ _ _ _
theorem preB_nil (q : Way) : preB [] q = true := preB_iff.2 List.nil_prefix
set_option maxHeartbeats 3200000 in
theorem sizeA (w : World) (K : Nat → Prop) (B : Nat) (L : List On) (hA : At w K B L) (hlen : L.length ≤ 1000) :
    Calls Tryz.prog 27 #[ndV B] w fun e w' => e = .returned (.int .i64 (sizO L : Nat)) ∧ Below w.heap.size w w' := by
  obtain ⟨y, D, σ, τ, hs, hT, rfl, hK, hH, hZ⟩ := hA
  rw [List.length_map] at hlen
  have hl := hT.lenD
  have hS := size_any 6 w y D hs [] hT.tr hT.tr.root (by omega) (fun q hq _ => by
    rcases (hT.cls q).1 hq with rfl | ⟨x, hx, hp⟩
    · simp
    · have := hp.length_le
      have := (parse_len (hT.ok x hx)).1
      simp only [List.length_nil]
      omega)
  have hc : cnt D [] = D.length := by
    unfold cnt
    rw [List.filter_eq_self.2 (fun q _ => preB_nil q)]
  rw [hc, hT.top, siz_on hT] at hS
  have HS : Hid _ := hS
  clear hT hK hH hlen hl hS hc hZ
  go_enter Tryz.func27, Tryz.ntmps27
  go_wp2_with (first | (go_at_call 56; refine Calls.mono HS.out ?_; rintro e w1 ⟨rfl, hb1⟩) | fail)
  go_ret
  exact ⟨rfl, hb1⟩
theorem sizeNil (w : World) :
    Calls Tryz.prog 27 #[.pointer none] w fun e w' => e = .returned (.int .i64 0) ∧ w' = w := by
  go_enter Tryz.func27, Tryz.ntmps27
  go_wp2_with fail
  go_ret
  exact ⟨rfl, rfl⟩
end Go.Proofs.YtbblckcjedjbcaaGreatDoor
