/-
  trie: how many nodes there are.
-/
import Derived.Test.YtbblckcjedjbcaaGreatDoorXMatchT
import Derived.Maps.RangeWalk
namespace Go.Proofs.YtbblckcjedjbcaaGreatDoor
open Go.RowKit Go.Maps Go.Sort
set_option linter.unusedVariables false
set_option linter.unusedSimpArgs false

def preB (p q : Way) : Bool := decide (q.take p.length = p)
theorem preB_iff {p q : Way} : preB p q = true ↔ p <+: q := by
  unfold preB
  rw [decide_eq_true_eq, List.prefix_iff_eq_take]
  exact eq_comm
def cnt (D : List Way) (p : Way) : Nat := (D.filter (preB p)).length
theorem sum_one {K : List ByteArray} (hK : K.Nodup) {x : ByteArray} (hx : x ∈ K) : (K.map (fun k => if x = k then 1 else 0)).sum = 1 := by
  induction K with
  | nil => cases hx
  | cons a r ih =>
    obtain ⟨h1, h2⟩ := List.nodup_cons.1 hK
    rw [List.map_cons, List.sum_cons]
    rcases List.mem_cons.1 hx with rfl | hx
    · have : (r.map (fun k => if x = k then 1 else 0)).sum = 0 := by
        have : r.map (fun k => if x = k then 1 else 0) = r.map (fun _ => 0) := List.map_congr_left (fun k hk => if_neg (fun e => h1 (by rw [e]; exact hk)))
        rw [this]
        clear this ih hK h1 h2
        induction r with
        | nil => rfl
        | cons b r ih => simpa using ih
      rw [this, if_pos rfl]
    · rw [ih h2 hx, if_neg (fun e => h1 (by rw [← e]; exact hx))]
theorem sum_add (K : List ByteArray) (f g : ByteArray → Nat) : (K.map (fun k => f k + g k)).sum = (K.map f).sum + (K.map g).sum := by
  induction K with
  | nil => rfl
  | cons a r ih => simp only [List.map_cons, List.sum_cons, ih]; omega
theorem count_keys {L : List Way} {K : List ByteArray} (hK : K.Nodup) (f : Way → ByteArray) (h : ∀ q ∈ L, f q ∈ K) : L.length = (K.map (fun k => (L.filter (fun q => decide (f q = k))).length)).sum := by
  induction L with
  | nil =>
    have : K.map (fun k => ([] : List Way).length) = K.map (fun _ => 0) := rfl
    simp only [List.filter_nil]
    rw [this]
    clear hK h this
    induction K with
    | nil => rfl
    | cons a r ih => simpa using ih
  | cons q r ih =>
    have h1 := ih (fun x hx => h x (List.mem_cons_of_mem _ hx))
    have h2 := sum_one hK (h q List.mem_cons_self)
    have e : K.map (fun k => ((q :: r).filter (fun q => decide (f q = k))).length) = K.map (fun k => (if f q = k then 1 else 0) + (r.filter (fun q => decide (f q = k))).length) := List.map_congr_left (fun k hk => by
      rw [List.filter_cons]
      by_cases e : f q = k
      · simp [e]; omega
      · simp [e])
    rw [e, sum_add, h2, List.length_cons, ← h1]
    omega
theorem pre_in {D : List Way} (hup : ∀ p n, p ++ [n] ∈ D → p ∈ D) : ∀ (k : Nat) (r q : Way), r.length = k → q ++ r ∈ D → q ∈ D := by
  intro k
  induction k with
  | zero =>
    intro r q hr h
    have : r = [] := List.eq_nil_of_length_eq_zero hr
    subst this
    simpa using h
  | succ k ih =>
    intro r q hr h
    rcases List.eq_nil_or_concat r with rfl | ⟨r', n, rfl⟩
    · simp at hr
    · rw [List.concat_eq_append, ← List.append_assoc] at h
      exact ih r' q (by simpa using hr) (hup _ _ h)
theorem one_in {D : List Way} (hd : D.Nodup) {p : Way} (hp : p ∈ D) : (D.filter (fun q => decide (q = p))).length = 1 := by
  induction D with
  | nil => cases hp
  | cons a r ih =>
    obtain ⟨h1, h2⟩ := List.nodup_cons.1 hd
    rw [List.filter_cons]
    rcases List.mem_cons.1 hp with rfl | hp
    · have : r.filter (fun q => decide (q = p)) = [] := by
        rw [List.filter_eq_nil_iff]
        intro x hx e
        have e' : x = p := by simpa using e
        exact h1 (by rw [← e']; exact hx)
      rw [this]
      simp
    · have : ¬ a = p := fun e => h1 (by rw [e]; exact hp)
      simp only [this, decide_false, Bool.false_eq_true, if_false]
      exact ih h2 hp
/-- The name by which a way goes on behind p. -/
def nxt (p q : Way) : ByteArray := (q.drop p.length).head?.getD ⟨#[]⟩
theorem nxt_of (p : Way) (n : ByteArray) (t : Way) : nxt p (p ++ n :: t) = n := by
  unfold nxt
  rw [List.drop_left]
  rfl
theorem way_split {p q : Way} (h : p <+: q) (hne : q ≠ p) : ∃ n t, q = p ++ n :: t := by
  obtain ⟨t, rfl⟩ := h
  cases t with
  | nil => exact absurd (List.append_nil p) hne
  | cons n t => exact ⟨n, t, rfl⟩
theorem cnt_kids {D : List Way} (hd : D.Nodup) (hup : ∀ p n, p ++ [n] ∈ D → p ∈ D) {p : Way} (hp : p ∈ D) : cnt D p = 1 + ((kidsOf D p).map (fun n => cnt D (p ++ [n]))).sum := by
  have h1 := (part_perm (fun q : Way => decide (q = p)) (D.filter (preB p))).length_eq
  rw [List.length_append] at h1
  have e1 : (D.filter (preB p)).filter (fun q => decide (q = p)) = D.filter (fun q => decide (q = p)) := by
    rw [List.filter_filter]
    apply List.filter_congr
    intro q _
    rw [Bool.eq_iff_iff, Bool.and_eq_true]
    constructor
    · exact fun h => h.1
    · intro h
      refine ⟨h, preB_iff.2 ?_⟩
      have e : q = p := by simpa using h
      rw [e]
      exact List.prefix_refl _
  rw [e1, one_in hd hp] at h1
  have hL : ∀ q, q ∈ (D.filter (preB p)).filter (fun q => !decide (q = p)) ↔ q ∈ D ∧ p <+: q ∧ q ≠ p := fun q => by
    rw [List.mem_filter, List.mem_filter, preB_iff]
    simp only [Bool.not_eq_true', decide_eq_false_iff_not]
    exact and_assoc
  have h2 := count_keys (L := (D.filter (preB p)).filter (fun q => !decide (q = p))) (kids_nodup hd p) (nxt p) (fun q hq => by
    obtain ⟨h3, h4, h5⟩ := (hL q).1 hq
    obtain ⟨n, t, rfl⟩ := way_split h4 h5
    rw [nxt_of, kids_mem]
    exact pre_in hup t.length t _ rfl (by rw [List.append_assoc]; exact h3))
  have e2 : (kidsOf D p).map (fun k => (((D.filter (preB p)).filter (fun q => !decide (q = p))).filter (fun q => decide (nxt p q = k))).length) = (kidsOf D p).map (fun n => cnt D (p ++ [n])) := List.map_congr_left (fun n hn => by
    unfold cnt
    congr 1
    rw [List.filter_filter, List.filter_filter]
    apply List.filter_congr
    intro q hq
    rw [Bool.eq_iff_iff]
    simp only [Bool.and_eq_true, decide_eq_true_eq, Bool.not_eq_true', decide_eq_false_iff_not]
    rw [preB_iff, preB_iff]
    constructor
    · rintro ⟨⟨h3, h4⟩, h5⟩
      obtain ⟨m, t, rfl⟩ := way_split h5 h4
      rw [nxt_of] at h3
      subst h3
      exact ⟨t, by simp⟩
    · rintro ⟨t, rfl⟩
      rw [List.append_assoc]
      refine ⟨⟨nxt_of p n t, fun e => ?_⟩, List.prefix_append _ _⟩
      have := congrArg List.length e
      simp at this)
  rw [e2] at h2
  unfold cnt at h2 ⊢
  omega
theorem cnt_le (D : List Way) (p : Way) : cnt D p ≤ D.length := List.length_filter_le _ _
theorem sum_perm {K L : List (List UInt8)} (h : K.Perm L) (f : List UInt8 → Nat) : (K.map f).sum = (L.map f).sum := (h.map f).sum_nat
theorem grownNone {w w' : World} (h : Below w.heap.size w w') : w.grownBy w' none := ⟨h.os, h.tape, h.output, h.size, fun k hk _ => h.block k hk⟩
theorem rangeNil (w : World) : (Instr.range 74 (.map none)).run Tryz.prog w = .ok (.pointer (some ⟨w.heap.size, 0, none⟩)) (w.alloc (.mapIter none 0 #[] 0)) := by
  simp [Instr.range, run_underlying Tryz.underlying74]
theorem nextNil {w : World} {r : Nat} (h : w.heap[r]? = some (.mapIter none 0 #[] 0)) (ty : TypeId) : (Instr.next (.pointer (some ⟨r, 0, none⟩)) false ty).run Tryz.prog w = .ok (.tuple #[.bool false]) w := by
  have hg : (getObj r).run Tryz.prog w = .ok (.mapIter none 0 #[] 0) w := by simp [getObj, Sem.run, h]
  simp [Instr.next, hg]
def wayOf (p : Way) (l : List UInt8) : Way := p ++ [⟨l.toArray⟩]
def sumC (D : List Way) (p : Way) (ls : List (List UInt8)) : Nat := (ls.map (fun l => cnt D (wayOf p l))).sum
theorem sumC_snoc (D : List Way) (p : Way) (ls : List (List UInt8)) (l : List UInt8) : sumC D p (ls ++ [l]) = sumC D p ls + cnt D (wayOf p l) := by
  unfold sumC
  rw [List.map_append, List.sum_append]
  simp
theorem sumC_all {D : List Way} (hd : D.Nodup) (hup : ∀ p n, p ++ [n] ∈ D → p ∈ D) {p : Way} (hp : p ∈ D) {ls : List (List UInt8)} (h : ls.Perm ((kidsOf D p).map (fun n => n.data.toList))) : 1 + sumC D p ls = cnt D p := by
  rw [cnt_kids hd hup hp]
  unfold sumC
  rw [sum_perm h, List.map_map]
  congr 2
theorem wayOf_inj {p : Way} {a b : List UInt8} (h : wayOf p a = wayOf p b) : a = b := by
  unfold wayOf at h
  have h1 := List.append_cancel_left h
  simpa using h1
theorem sum_le {α : Type} {f : α → Nat} {M : Nat} (h : ∀ x, f x ≤ M) (l : List α) : (l.map f).sum ≤ l.length * M := by
  induction l with
  | nil => simp
  | cons a r ih =>
    rw [List.map_cons, List.sum_cons, List.length_cons, Nat.add_mul, Nat.one_mul]
    have := h a
    omega
set_option maxHeartbeats 32000000 in
set_option maxRecDepth 100000 in
theorem size_step (w : World) (y : Lay) (D : List Way) (hs : List He) (p : Way) (hT : Tr w y D hs) (hp : p ∈ D) (hD : D.length ≤ 100000) (hrec : ∀ (w1 : World) (n : ByteArray), Below w.heap.size w w1 → p ++ [n] ∈ D → Calls Tryz.prog 56 #[ndV (y.β (p ++ [n]))] w1 fun e w' => e = .returned (.int .i64 (cnt D (p ++ [n]) : Nat)) ∧ Below w1.heap.size w1 w') :
    Calls Tryz.prog 56 #[ndV (y.β p)] w fun e w' => e = .returned (.int .i64 (cnt D p : Nat)) ∧ Below w.heap.size w w' := by
  obtain ⟨c0, c1, _, fz⟩ := (hT.nd p hp).cells
  rcases hT.kids p hp with ⟨hm, hno⟩ | ⟨mb, Dm, hm, hmp, hkr⟩
  · rw [hm] at c0
    have HC1 : Hid (cnt D p = 1) := by
      have h1 := cnt_kids hT.dn hT.up hp
      have h2 : kidsOf D p = [] := by
        rw [List.eq_nil_iff_forall_not_mem]
        intro n hn
        exact hno n (kids_mem.1 hn)
      rw [h2] at h1
      exact h1
    have hrn := rangeNil w
    obtain ⟨W, hW⟩ : ∃ z, w.alloc (.mapIter none 0 #[] 0) = z := ⟨_, rfl⟩
    rw [hW] at hrn
    have HX : Hid (W.heap[w.heap.size]? = some (.mapIter none 0 #[] 0)) := by show _ = _; rw [← hW]; exact heap_alloc_new _ _
    have HB : Hid (Below w.heap.size w W) := by show Below _ _ _; rw [← hW]; exact (Below.refl _ _).alloc (Nat.le_refl _) _
    have hnx := fun ty => nextNil HX.out ty
    clear hT hp hrec hno hm hW fz c1 hD
    go_enter Tryz.func56, Tryz.ntmps56
    go_wp2_with fail
    refine wp_loop_rounds 1 ?_
    rw [rounds_succ]
    go_wp2_with fail
    go_ret
    exact ⟨by rw [HC1.out]; rfl, HB.out⟩
  · rw [hm] at c0
    have hbl := hmp.lt
    have HKR : Hid _ := hkr
    have HT : Hid _ := hT
    have HDN : Hid (D.Nodup) := hT.dn
    have HSA : Hid (∀ ls : List (List UInt8), ls.Perm (strKeys Dm) → 1 + sumC D p ls = cnt D p) := fun ls h => sumC_all hT.dn hT.up hp (h.trans (hkr.keys hT.dn).symm)
    have HREC : Hid _ := hrec
    have HMP : Hid _ := hmp
    obtain ⟨sz, hsz⟩ : ∃ sz, Maps.size Dm = sz := ⟨_, rfl⟩
    have hszl : sz ≤ 100000 := by rw [← hsz, hkr.size hT.dn]; have := kids_len D p; omega
    rw [hsz] at hmp
    have HBD : Hid (∀ ls : List (List UInt8), ls.Nodup → (∀ l ∈ ls, wayOf p l ∈ D) → sumC D p ls ≤ 10000000000) := fun ls hn hls => by
      have h1 : (ls.map (wayOf p)).length ≤ D.length := List.Nodup.length_le_of_subset (List.Pairwise.map _ (fun a b hab e => hab (wayOf_inj e)) hn) (fun q hq => by
        obtain ⟨l, hl, rfl⟩ := List.mem_map.1 hq
        exact hls l hl)
      rw [List.length_map] at h1
      have h2 := sum_le (f := fun l => cnt D (wayOf p l)) (M := D.length) (fun l => cnt_le D _) ls
      have h3 : ls.length * D.length ≤ 100000 * 100000 := Nat.mul_le_mul (by omega) hD
      unfold sumC
      omega
    clear hT hrec hkr fz c1
    go_enter Tryz.func56, Tryz.ntmps56
    go_wp2_with (first
      | (at_range; go_loud (refine wpList_range_own _ rfl _ 74 rfl 9 120 keyed Tryz.underlying74 raw mb sz Dm rfl hmp ?_; intro w0 hrg0 hg0 hs0))
      | fail)
    go_frame
    go_loopw [3, 5] (fun v k wr => ∃ (left : Lit → Bool) (cn : Nat) (all : List (List UInt8)), wr.ranges Tryz.prog 9 raw mb w.heap.size sz Dm left cn ∧ v = .int .i64 ((1 + sumC D p all : Nat) : Int) ∧ Hid (∀ l ∈ all, wayOf p l ∈ D) ∧ Collected Dm left all ∧ Hid (Below w.heap.size w wr)) (fun _ _ wr => wr.rangeLeft mb w.heap.size)
    case atStart => exact ⟨_, _, [], hrg0, rfl, fun l hl => (by cases hl), Collected.start Dm, (Below.refl _ _).grown hg0 (Nat.le_refl _) (fun j hj => by cases hj)⟩
    case round =>
      obtain ⟨left, cn, all, hrg, rfl, HAL, hC, HB⟩ := hrel
      have hsl := HBD.out all hC.1 HAL.out
      go_wp2_with (first
        | (at_next; go_loud (refine wpList_next_ranges _ rfl _ rfl 9 keyed raw encStr id (fun key kl hk => by obtain ⟨x, hx, _⟩ := Maps.keyOf_str Tryz.underlying9 hk; exact ⟨x, hx⟩) (fun v y hv => ⟨v, rfl⟩) mb w.heap.size sz _ _ _ rfl hrg ?_ ?_))
        | fail)
      · intro hc0 hl0
        have HP : Hid (all.Perm (strKeys Dm)) := hC.perm HMP.out keyed Tryz.underlying9 hl0
        have HE : Hid (1 + sumC D p all = cnt D p) := HSA.out all HP.out
        clear hrg hC hc0 hl0
        go_wp2_with fail
        go_ret
        refine ⟨?_, HB.out⟩
        rw [← HE.out]
        rfl
      · intro x c kl yd yp w2 cnt2 hkey hlk hv hat hrg2 hlt hg2 hs2 hen
        obtain ⟨x', ex, rfl, _⟩ := Maps.keyOf_str Tryz.underlying9 hkey
        obtain rfl : x = x' := encStr_inj ex
        have HB2 : Hid (Below w.heap.size w w2) := HB.out.grown hg2 HB.out.size (fun j hj => by cases hj; exact Nat.le_refl _)
        have hin : wayOf p x ∈ D := by
          have h1 : Maps.has Dm (.string x) = true := by
            cases hh : Maps.has Dm (.string x) with
            | true => rfl
            | false =>
              have a1 := hat (.map [])
              have a2 := hat (.held undef)
              rw [Maps.atKey_of_not_has hh] at a1 a2
              rw [← a1] at a2
              cases a2
          have h2 := HKR.out.has ⟨x.toArray⟩
          have e : ky ⟨x.toArray⟩ = .string x := by simp [ky]
          rw [e] at h2
          exact h2.1 h1
        have hc : c = ndV (y.β (wayOf p x)) := by
          have h2 := HKR.out.look ⟨x.toArray⟩ (.map []) hin
          have e : ky ⟨x.toArray⟩ = .string x := by simp [ky]
          rw [e, hat] at h2
          rw [h2] at hv
          exact raw_inv hv
        subst hc
        have HRC : Hid (Calls Tryz.prog 56 #[ndV (y.β (wayOf p x))] w2 fun e w' => e = .returned (.int .i64 (cnt D (wayOf p x) : Nat)) ∧ Below w2.heap.size w2 w') := HREC.out w2 ⟨x.toArray⟩ HB2.out hin
        have HAL2 : Hid (∀ l ∈ all ++ [x], wayOf p l ∈ D) := fun l hl => by
          rcases List.mem_append.1 hl with h | h
          · exact HAL.out l h
          · have : l = x := by simpa using h
            rw [this]; exact hin
        have hsl2 := HBD.out (all ++ [x]) (hC.step hlk hat).1 HAL2.out
        rw [sumC_snoc] at hsl2
        have HSN : Hid _ := sumC_snoc D p all x
        clear hs2 hv hin
        go_wp2_with fail
        refine Calls.mono HRC.out ?_
        rintro e w3 ⟨rfl, hb3⟩
        have hrg3 := hrg2.kept (grownNone hb3) (by simp) (by simp)
        have HB3 : Hid (Below w.heap.size w w3) := xtrans2 HB2.out hb3
        clear hb3
        go_wp2_with fail
        go_roundw
        case rel =>
          refine ⟨_, cnt2, all ++ [x], hrg3, ?_, HAL2.out, hC.step hlk hat, HB3.out⟩
          rw [HSN.out]
          go_num
        case measure => rw [hrg3.left_eq, hrg.left_eq]; exact hlt
theorem size_any : ∀ (d : Nat) (w : World) (y : Lay) (D : List Way) (hs : List He) (p : Way), Tr w y D hs → p ∈ D → D.length ≤ 100000 → (∀ q ∈ D, p <+: q → q.length ≤ p.length + d) →
    Calls Tryz.prog 56 #[ndV (y.β p)] w fun e w' => e = .returned (.int .i64 (cnt D p : Nat)) ∧ Below w.heap.size w w' := by
  intro d
  induction d with
  | zero =>
    intro w y D hs p hT hp hD hd
    refine size_step w y D hs p hT hp hD (fun w1 n hb hn => ?_)
    have := hd _ hn (List.prefix_append p [n])
    rw [List.length_append, List.length_singleton] at this
    omega
  | succ d ih =>
    intro w y D hs p hT hp hD hd
    refine size_step w y D hs p hT hp hD (fun w1 n hb hn => ?_)
    refine ih w1 y D hs (p ++ [n]) (hT.below hb) hn hD (fun q hq hpre => ?_)
    have h1 := hd q hq ((List.prefix_append p [n]).trans hpre)
    rw [List.length_append, List.length_singleton]
    omega
end Go.Proofs.YtbblckcjedjbcaaGreatDoor
