import Derived.Test.YtbblckcjedjbcaaGreatDoorXAll
import Derived.Test.YtbblckcjedjbcaaGreatDoorRRange
import Derived.RangeFuncBound
import Derived.Shelf.Abstract
import Derived.Shelf.RegionOpen
import Derived.OwnWalkIn
import Derived.TacticsInMore
import Derived.LoopNIn
import Derived.LoopIn
import Derived.Sort.LoopGhostIn
namespace Go.Proofs.YtbblckcjedjbcaaGreatDoor
open Go.RowKit Go.Maps Go.Sort
set_option linter.unusedVariables false
set_option linter.unusedSimpArgs false

theorem all_any : ∀ (d : Nat) (w : World) (y : Lay) (D : List Way) (hs : List He) (p : Way) (v : Value) (l : List He), Tr w y D hs → p ∈ D → D.length ≤ 100000 → (∀ q ∈ D, p <+: q → q.length ≤ p.length + d) → w.ownsRow 0 91 1 v l.length (ptrs l) → (∀ k, v.ownBlock = some k → ¬ Ft y D hs k) → l.length + (allH D hs d p).length ≤ 100000 →
    Calls Tryz.prog 43 #[ndV (y.β p), v] w (AllE w v (l ++ allH D hs d p)) := by
  intro d
  induction d with
  | zero =>
    intro w y D hs p v l hT hp hD hd hv hF hl
    refine allN_step w y D hs p (fun _ => []) v l hT hp hD hv hF hl (fun w1 x v1 l1 hx _ _ _ _ => ?_)
    have := hd _ (way_kid hx) (List.prefix_append p _)
    rw [wayOf, List.length_append, List.length_singleton] at this
    omega
  | succ d ih =>
    intro w y D hs p v l hT hp hD hd hv hF hl
    refine allN_step w y D hs p (allH D hs d) v l hT hp hD hv hF hl (fun w1 x v1 l1 hx hT1 hv1 hF1 hl1 => ?_)
    refine ih w1 y D hs (wayOf p x) v1 l1 hT1 (way_kid hx) hD (fun q hq hpre => ?_) hv1 hF1 hl1
    have h1 := hd q hq ((List.prefix_append p _).trans hpre)
    rw [wayOf, List.length_append, List.length_singleton]
    omega
theorem kidsB_in {D : List Way} {p : Way} {l : List UInt8} : l ∈ kidsB D p ↔ wayOf p l ∈ D := by
  constructor
  · exact way_kid
  · intro h
    exact List.mem_map.2 ⟨⟨l.toArray⟩, kids_mem.2 h, by simp⟩
theorem wayOf_pre {p : Way} {a b : List UInt8} {q : Way} (ha : wayOf p a <+: q) (hb : wayOf p b <+: q) : a = b := by
  obtain ⟨r, rfl⟩ := ha
  obtain ⟨s, hs⟩ := hb
  unfold wayOf at hs
  rw [List.append_assoc, List.append_assoc] at hs
  have h1 := List.append_cancel_left hs
  simp only [List.cons_append, List.nil_append, List.cons.injEq] at h1
  have h2 := congrArg (fun z : ByteArray => z.data.toList) h1.1
  simpa using h2.symm
theorem all_mem (D : List Way) (hs : List He) (hup : ∀ p n, p ++ [n] ∈ D → p ∈ D) (hin : ∀ x ∈ hs, x.way ∈ D) : ∀ (d : Nat) (p : Way), (∀ q ∈ D, p <+: q → q.length ≤ p.length + d) → ∀ x, x ∈ allH D hs d p ↔ x ∈ hs ∧ p <+: x.way := by
  have hpre : ∀ r q : Way, q ++ r ∈ D → q ∈ D := by
    intro r
    induction r with
    | nil => intro q h; rwa [List.append_nil] at h
    | cons n r ih =>
      intro q h
      refine hup q n (ih (q ++ [n]) ?_)
      rw [List.append_assoc]
      exact h
  have step : ∀ (d : Nat) (p : Way) (R : Way → List He), (∀ l ∈ kidsB D p, ∀ x, x ∈ R (wayOf p l) ↔ x ∈ hs ∧ wayOf p l <+: x.way) → ∀ x, x ∈ allS D hs p R ↔ x ∈ hs ∧ p <+: x.way := by
    intro d p R hR x
    unfold allS
    rw [List.mem_append, here_mem, List.mem_flatMap]
    constructor
    · rintro (⟨h1, h2⟩ | ⟨l, hl, hx⟩)
      · exact ⟨h1, by rw [h2]; exact List.prefix_refl _⟩
      · have hl' := (sortX_perm _).mem_iff.1 hl
        have := (hR l hl' x).1 hx
        exact ⟨this.1, (List.prefix_append p _).trans this.2⟩
    · rintro ⟨h1, r, hr⟩
      cases r with
      | nil => left; exact ⟨h1, by rw [← hr, List.append_nil]⟩
      | cons n r =>
        right
        have hw : wayOf p n.data.toList = p ++ [n] := by
          unfold wayOf
          congr 2
        have hk : n.data.toList ∈ kidsB D p := by
          rw [kidsB_in, hw]
          refine hpre r _ ?_
          rw [List.append_assoc]
          have := hin x h1
          rw [← hr] at this
          exact this
        refine ⟨_, (sortX_perm _).mem_iff.2 hk, (hR _ hk x).2 ⟨h1, ?_⟩⟩
        rw [hw, ← hr]
        exact ⟨r, by simp⟩
  intro d
  induction d with
  | zero =>
    intro p hd
    refine step 0 p _ (fun l hl => ?_)
    have := hd _ (way_kid hl) (List.prefix_append p _)
    rw [wayOf, List.length_append, List.length_singleton] at this
    omega
  | succ d ih =>
    intro p hd
    refine step d p _ (fun l hl => ih (wayOf p l) (fun q hq hq2 => ?_))
    have h1 := hd q hq ((List.prefix_append p _).trans hq2)
    rw [wayOf, List.length_append, List.length_singleton]
    omega
theorem ord_nodup {hs : List He} (h : Ord hs) : hs.Nodup := by
  refine List.Pairwise.imp (fun {a b} hab hne => ?_) h
  subst hne
  have := bef_irr a.s a.i
  unfold befH at hab
  rw [this] at hab
  cases hab
theorem kidsB_nodup {D : List Way} (h : D.Nodup) (p : Way) : (kidsB D p).Nodup := by
  unfold kidsB
  refine List.Pairwise.map _ (fun a b hab hne => hab ?_) (kids_nodup h p)
  exact ByteArray.ext (Array.ext' hne)
theorem all_nodup (D : List Way) (hs : List He) (hd0 : D.Nodup) (ho : Ord hs) (hup : ∀ p n, p ++ [n] ∈ D → p ∈ D) (hin : ∀ x ∈ hs, x.way ∈ D) : ∀ (d : Nat) (p : Way), (∀ q ∈ D, p <+: q → q.length ≤ p.length + d) → (allH D hs d p).Nodup := by
  have step : ∀ (p : Way) (R : Way → List He), (∀ l ∈ kidsB D p, ∀ x, x ∈ R (wayOf p l) → wayOf p l <+: x.way) → (∀ l ∈ kidsB D p, (R (wayOf p l)).Nodup) → (allS D hs p R).Nodup := by
    intro p R hR hN
    unfold allS
    refine List.nodup_append.2 ⟨(ord_nodup ho).filter _, ?_, ?_⟩
    · refine List.pairwise_flatMap.2 ⟨fun l hl => hN l ((sortX_perm _).mem_iff.1 hl), ?_⟩
      refine List.Pairwise.imp_of_mem (fun {a b} ha hb hab x hx z hz e => hab ?_) ((sortX_perm _).nodup_iff.2 (kidsB_nodup hd0 p))
      subst e
      exact wayOf_pre (hR a ((sortX_perm _).mem_iff.1 ha) _ hx) (hR b ((sortX_perm _).mem_iff.1 hb) _ hz)
    · intro a ha b hb e
      subst e
      obtain ⟨l, hl, hx⟩ := List.mem_flatMap.1 hb
      have h1 := (hR l ((sortX_perm _).mem_iff.1 hl) _ hx).length_le
      rw [(here_mem.1 ha).2, wayOf, List.length_append, List.length_singleton] at h1
      omega
  intro d
  induction d with
  | zero =>
    intro p hd
    have hno : ∀ l ∈ kidsB D p, False := fun l hl => by
      have := hd _ (way_kid hl) (List.prefix_append p _)
      rw [wayOf, List.length_append, List.length_singleton] at this
      omega
    exact step p _ (fun l hl => (hno l hl).elim) (fun l hl => (hno l hl).elim)
  | succ d ih =>
    intro p hd
    have hdk : ∀ l, ∀ q ∈ D, wayOf p l <+: q → q.length ≤ (wayOf p l).length + d := fun l q hq hq2 => by
      have h1 := hd q hq ((List.prefix_append p _).trans hq2)
      rw [wayOf, List.length_append, List.length_singleton]
      omega
    exact step p _ (fun l hl x hx => ((all_mem D hs hup hin d (wayOf p l) (hdk l) x).1 hx).2) (fun l hl => ih _ (hdk l))
theorem all_len {D : List Way} {hs : List He} (hd0 : D.Nodup) (ho : Ord hs) (hup : ∀ p n, p ++ [n] ∈ D → p ∈ D) (hin : ∀ x ∈ hs, x.way ∈ D) {d : Nat} {p : Way} (hd : ∀ q ∈ D, p <+: q → q.length ≤ p.length + d) : (allH D hs d p).length ≤ hs.length :=
  List.Nodup.length_le_of_subset (all_nodup D hs hd0 ho hup hin d p hd) (fun x hx => ((all_mem D hs hup hin d p hd x).1 hx).1)
end Go.Proofs.YtbblckcjedjbcaaGreatDoor
namespace Go.Proofs.YtbblckcjedjbcaaGreatDoor
open Go.RowKit Go.Shelf Go.Maps
set_option linter.unusedVariables false
set_option linter.unusedSimpArgs false
attribute [local go_sem] Oper.semAt_some

/-- What was cells is the same still, but for S. -/
structure Kp (S : Nat → Prop) (V W : World) : Prop where
  size : V.heap.size ≤ W.heap.size
  cells : ∀ k cs t fr, V.heap[k]? = some (.cells cs t fr) → ¬ S k → W.heap[k]? = some (.cells cs t fr)
def NoB : Nat → Prop := fun _ => False
theorem Kp.refl (S : Nat → Prop) (V : World) : Kp S V V := ⟨Nat.le_refl _, fun _ _ _ _ h _ => h⟩
theorem Kp.trans {S : Nat → Prop} {A B C : World} (h : Kp S A B) (k : Kp S B C) : Kp S A C := ⟨Nat.le_trans h.size k.size, fun i cs t fr hi hs => k.cells i cs t fr (h.cells i cs t fr hi hs) hs⟩
theorem Kp.mono {S T : Nat → Prop} {A B : World} (h : Kp S A B) (hs : ∀ k, S k → T k) : Kp T A B := ⟨h.size, fun i cs t fr hi ht => h.cells i cs t fr hi (fun e => ht (hs i e))⟩
theorem Kp.of_chg {S : Nat → Prop} {A B : World} (h : Chg A B S) : Kp S A B := ⟨h.size, fun k cs t fr hk hs => (h.block k (lt_of_blk hk) hs).trans hk⟩
theorem Kp.of_below {A B : World} (h : Below A.heap.size A B) (S : Nat → Prop) : Kp S A B := Kp.of_chg (Chg.of_below h S)
theorem Kp.grown {S : Nat → Prop} {V W W' : World} {row : Option Nat} {B : Nat} (h : Kp S V W) (hg : W.grownBy W' row) (hr : ∀ r, row = some r → B ≤ r ∧ ∃ o : Obj, W.heap[r]? = some o ∧ o.isCells = false) : Kp S V W' := by
  refine ⟨Nat.le_trans h.size hg.size, fun k cs t fr hk hs => ?_⟩
  have h1 := h.cells k cs t fr hk hs
  rw [hg.block k (lt_of_blk h1) (fun e => ?_)]
  · exact h1
  · obtain ⟨_, o, ho, hc⟩ := hr k e.symm
    rw [h1] at ho
    cases ho
    cases hc
theorem owns_kp {w w' : World} {B e s n : Nat} {v : Value} {xs : List Value} {S : Nat → Prop} (h : w.ownsRow B e s v n xs) (hk : Kp S w w') (hs : ∀ k, v.ownBlock = some k → ¬ S k) : w'.ownsRow B e s v n xs := by
  refine ⟨h.1, ?_⟩
  rcases h.2 with h2 | ⟨g, cap, cur, hv, hB, hg, r⟩
  · exact .inl h2
  · exact .inr ⟨g, cap, cur, hv, hB, hk.cells _ _ _ _ hg (hs g (by rw [hv]; rfl)), r⟩
theorem keeps_below {A C : World} (h : Below A.heap.size A C) (B : Nat) : KeepsFrom B A C := ⟨h.size, fun k o _ hk _ => (h.block k (lt_of_blk hk)).trans hk⟩
set_option maxRecDepth 100000 in
set_option maxHeartbeats 3200000 in
/-- Walk: the receiver is boxed; the function value keeps the box. -/
theorem walk_func (p : Option Addr) (w : World) :
    Calls Tryz.prog 18 #[.pointer p] w fun e w' => e = .returned (.func (.func 42) #[] #[.pointer (some ⟨w.heap.size, 0, none⟩)]) ∧ w' = w.alloc (.cells #[.pointer p] 26) := by
  go_enter Tryz.func18, Tryz.ntmps18
  go_wp2
  go_ret
  exact ⟨rfl, rfl⟩
/-- What a walk hands on. -/
def wkL (D : List Way) (hs : List He) : List He := allH D hs 6 []
theorem wk_len {w : World} {B : Nat} {y : Lay} {D : List Way} {σ : Option Nat} {τ : Int → Value} {hs : List He} (h : TrieAt w B y D σ τ hs) : ∀ q ∈ D, [] <+: q → q.length ≤ ([] : Way).length + 6 := by
  intro q hq _
  rcases (h.cls q).1 hq with rfl | ⟨x, hx, hp⟩
  · simp
  · have := hp.length_le
    have := (parse_len (h.ok x hx)).1
    simp only [List.length_nil]
    omega
theorem wk_mem {w : World} {B : Nat} {y : Lay} {D : List Way} {σ : Option Nat} {τ : Int → Value} {hs : List He} (h : TrieAt w B y D σ τ hs) (x : He) : x ∈ wkL D hs ↔ x ∈ hs :=
  (all_mem D hs h.tr.up h.way_in 6 [] (wk_len h) x).trans ⟨fun h => h.1, fun h => ⟨h, List.nil_prefix⟩⟩
theorem wk_le {w : World} {B : Nat} {y : Lay} {D : List Way} {σ : Option Nat} {τ : Int → Value} {hs : List He} (h : TrieAt w B y D σ τ hs) : (wkL D hs).length ≤ hs.length :=
  all_len h.tr.dn h.tr.ord h.tr.up h.way_in (wk_len h)
/-- What is asked of who ranges over Walk: J q M W: between two rounds, M: the blocks that the round may turn. -/
structure WalkBy (B : Nat) (y : Lay) (D : List Way) (σ : Option Nat) (τ : Int → Value) (hs : List He) (Bb : Nat) (M0 : Nat → Prop) (J : Nat → (Nat → Prop) → World → Prop) : Prop where
  box : ∀ W, J 0 M0 W → W.cell? ⟨Bb, 0, none⟩ = some (ndV B)
  trie : ∀ W, J 0 M0 W → TrieAt W B y D σ τ hs
  out : ∀ W, J 0 M0 W → ∀ k, M0 k → k < W.heap.size ∧ ∀ h ∈ hs, h.b ≠ k
  below : ∀ q M W W', J q M W → Below W.heap.size W W' → J q M W'
abbrev WkS : Type := Nat × World × (Nat → Prop)
def WkI (J : Nat → (Nat → Prop) → World → Prop) (s : WkS) (W : World) : Prop := Kp NoB s.2.1 W ∧ J s.1 s.2.2 W
def WkY (P : List He) (J : Nat → (Nat → Prop) → World → Prop) (s : WkS) (x : He × World) (W : World) : Prop := Kp NoB x.2 W ∧ J s.1 s.2.2 W ∧ P[s.1]? = some x.1
def WkN (s : WkS) (x : He × World) (s' : WkS) : Prop := s'.1 = s.1 + 1 ∧ Kp s.2.2 x.2 s'.2.1 ∧ ∀ k, s'.2.2 k → s.2.2 k ∨ x.2.heap.size ≤ k

set_option maxRecDepth 100000 in
set_option maxHeartbeats 3200000 in
theorem walk_seq (n : Nat) (Bt : Nat) (y : Lay) (D : List Way) (σ : Option Nat) (τ : Int → Value) (hs : List He) (Bb B : Nat) (M0 : Nat → Prop) (J : Nat → (Nat → Prop) → World → Prop) (X : Code → World → Prop) (E : World → Prop) (W0 : World) (hlen : hs.length ≤ 1000) (hEJ : ∀ M W, J (wkL D hs).length M W → E W) (h : WalkBy Bt y D σ τ hs Bb M0 J) :
    SeqSt Fence.wide n Tryz.prog 42 #[.pointer (some ⟨Bb, 0, none⟩)] (fun x : He × World => #[.string x.1.p, tagV x.1.s x.1.i]) B (WkI J) (WkY (wkL D hs) J) WkN X E (0, W0, M0) := by
  intro l Z Zx W1 hZ hZx hY h0 hz0
  have hbx := h.box W1 h0.2
  have hT := h.trie W1 h0.2
  have hlD := hT.lenD
  have hle := wk_le hT
  have HAL : Hid (Calls Tryz.prog 43 #[ndV Bt, .slice none 0 0] W1 (AllE W1 (.slice none 0 0) (wkL D hs))) := by
    have h1 := all_any 6 W1 y D hs [] (.slice none 0 0) [] hT.tr hT.tr.root (by omega) (wk_len hT) (World.ownsRow_nil _ _ _ _) (fun k hk => by cases hk) (by
      have : (allH D hs 6 []).length ≤ hs.length := hle
      simp only [List.length_nil]
      omega)
    rw [hT.top, List.nil_append] at h1
    exact h1
  have HHD : Hid (∀ x ∈ wkL D hs, HdAt W1 x) := fun x hx => hT.tr.held x ((wk_mem hT x).1 hx)
  have HHS : Hid (∀ x ∈ wkL D hs, x.p.size ≤ 281474976710656) := fun x hx => by
    have h9 : x.p.size ≤ 102 := psize (by rw [hT.ok x ((wk_mem hT x).1 hx)])
    omega
  have HOU : Hid (∀ k, M0 k → k < W1.heap.size ∧ ∀ x ∈ wkL D hs, x.b ≠ k) := fun k hk => by
    obtain ⟨h1, h2⟩ := h.out W1 h0.2 k hk
    exact ⟨h1, fun x hx => h2 x ((wk_mem hT x).1 hx)⟩
  obtain ⟨P, hP⟩ : ∃ P, wkL D hs = P := ⟨_, rfl⟩
  rw [hP] at HAL HHD HHS HOU hY hEJ hle
  obtain ⟨m, hm⟩ : ∃ m, P.length = m := ⟨_, rfl⟩
  have hm1 : m ≤ 1000 := by omega
  have HM : Hid (P.length = m) := hm
  have HJ : Hid (J 0 M0 W1) := h0.2
  have HZ1 : Hid (Z W1) := hz0
  have HY : Hid _ := hY
  have HZ : Hid (∀ (A C : World), KeepsFrom B A C → Z A → Z C) := hZ
  have HBL : Hid (∀ q M W W', J q M W → Below W.heap.size W W' → J q M W') := h.below
  have HEJ : Hid (∀ M W, J P.length M W → E W) := hEJ
  clear hY hZ hZx h0 hz0 h hEJ hT hlD hle hP hlen
  refine callsIn_of_wp Tryz.func42 rfl trivial ?_ rfl
  simp only [Tryz.ntmps42, List.size_toArray, List.length_cons, List.length_nil, Nat.reduceAdd, Nat.reduceSub, Array.replicate_succ, Array.replicate_zero, List.push_toArray, List.append_toArray, List.nil_append, List.cons_append]
  gi_wp2
  refine ⟨trivial, (fun hd => nomatch hd), ?_⟩
  refine (callsIn_wide.2 HAL.out).mono ?_
  rintro e w2 ⟨v2, rfl, ho2, hc2, ha2⟩
  rw [hm] at ho2
  have HB2 : Hid (Below W1.heap.size W1 w2) := hc2.below (Nat.le_refl _) (fun k _ e => by cases e)
  have HA2 : Hid (∀ k, v2.ownBlock = some k → W1.heap.size ≤ k) := fun k hk => by
    rcases ha2 k hk with e | e
    · cases e
    · exact e
  obtain ⟨a2, c2, hv2⟩ := owns_shape ho2
  subst hv2
  have HO2 : Hid _ := ho2
  have HNG : Hid (∀ k, (Value.slice a2 m c2).ownBlock = some k → ¬ M0 k) := fun k hk hs => by
    have h1 := HA2.out k hk
    have h2 := (HOU.out k hs).1
    omega
  have HNH : Hid (∀ x ∈ P, ¬ M0 x.b) := fun x hx hs => (HOU.out _ hs).2 x hx rfl
  have HH2 : Hid (∀ x ∈ P, HdAt w2 x) := fun x hx => (HHD.out x hx).below HB2.out
  clear ho2 hc2 ha2 hbx
  gi_wp2
  gi_loopg [12] m (fun k i wr => ∃ (q : Nat) (M : Nat → Prop), k = m - q ∧ i = .int .i64 q ∧ q ≤ m ∧ Hid ((∀ k, (Value.slice a2 m c2).ownBlock = some k → ¬ M k) ∧ ∀ x ∈ P, ¬ M x.b) ∧ Hid (J q M wr) ∧ Hid (Z wr) ∧ Hid (wr.ownsRow 0 91 1 (.slice a2 m c2) m (ptrs P)) ∧ Hid (∀ x ∈ P, HdAt wr x))
  case atStart => exact ⟨0, M0, rfl, rfl, Nat.zero_le _, ⟨HNG.out, HNH.out⟩, HBL.out _ _ _ _ HJ.out HB2.out, HZ.out _ _ (keeps_below HB2.out B) HZ1.out, HO2, HH2⟩
  case round =>
    obtain ⟨q, M, rfl, rfl, hq, HMq, HJq, HZq, HOq, HHq⟩ := hrel
    by_cases hlt : q < m
    · have hlt' : (q : Int) < (m : Int) := by omega
      obtain ⟨x, hx⟩ : ∃ x, P[q]? = some x := ⟨P[q]'(by rw [HM.out]; exact hlt), List.getElem?_eq_getElem _⟩
      obtain ⟨g, hg⟩ : ∃ g, a2 = some ⟨g, 0, none⟩ := by
        rcases HOq.out.2 with ⟨h0, h1⟩ | ⟨g, cap, cur, hv, _⟩
        · omega
        · simp only [Value.slice.injEq] at hv
          exact ⟨g, hv.1⟩
      subst hg
      have n0 : wr.cell? ⟨g, q, none⟩ = some x.ptr := cell_n HOq.out (ptrs_at hx)
      have hxd := HHq.out x (List.mem_of_getElem? hx)
      obtain ⟨x0, x1, x2, x3, x4⟩ := cells_5 hxd
      have HXP : Hid (P[q]? = some x) := hx
      have hxs := HHS.out x (List.mem_of_getElem? hx)
      have HXD : Hid (HdAt wr x) := hxd
      have HCL : Hid (∀ w', _) := fun w' => xclone_any x.p hxs w'
      clear hx hxd hxs
      gi_wp2
      refine ⟨trivial, (fun hd => nomatch hd), ?_⟩
      refine (callsIn_wide.2 (HCL.out _)).mono ?_
      rintro e' w4 ⟨rfl, hb4⟩
      have HB4 : Hid (Below wr.heap.size wr w4) := hb4
      clear hb4
      gi_wp2
      refine ⟨trivial, (fun hd => nomatch hd), ?_⟩
      refine (callsIn_wide.2 (tag_any x _ (HXD.out.below HB4.out))).mono ?_
      rintro e' w5 ⟨rfl, hb5⟩
      have HB5 : Hid (Below wr.heap.size wr w5) := xtrans2 HB4.out hb5
      obtain ⟨fn, tmps, assign, body, hyl, hR⟩ := HY.out (q, wr, M) (x, w5) w5 ⟨Kp.refl _ _, HBL.out _ _ _ _ HJq.out HB5.out, HXP.out⟩ (HZ.out _ _ (keeps_below HB5.out B) HZq.out)
      have HR : Hid _ := hR
      clear hR hb5 n0 x0 x1 x2 x3 x4
      gi_wp2
      refine ⟨(fun hd => nomatch hd), ?_⟩
      refine RoundIn.mono HR.out ?_
      rintro e' W3 (⟨rfl, ⟨s', hN, hI3⟩, hZ3⟩ | ⟨rfl, c3, hX3⟩)
      · obtain ⟨q', V', M'⟩ := s'
        obtain ⟨hN1, hN2, hN3⟩ := hN
        obtain ⟨hI1, hI2⟩ := hI3
        simp only at hN1 hN2 hN3 hI1 hI2
        subst hN1
        have hkp : Kp M w5 W3 := hN2.trans (hI1.mono (fun _ h => h.elim))
        have HJ3 : Hid (J (q + 1) M' W3) := hI2
        have HZ3 : Hid (Z W3) := hZ3
        have ho5 := owns_below HOq.out HB5.out
        have HO3 : Hid (W3.ownsRow 0 91 1 (.slice (some ⟨g, 0, none⟩) m c2) m (ptrs P)) := owns_kp ho5 hkp HMq.out.1
        have HH3 : Hid (∀ x ∈ P, HdAt W3 x) := fun x hx => hkp.cells _ _ _ _ ((HHq.out x hx).below HB5.out) (HMq.out.2 x hx)
        have HM3 : Hid ((∀ k, (Value.slice (some ⟨g, 0, none⟩) m c2).ownBlock = some k → ¬ M' k) ∧ ∀ x ∈ P, ¬ M' x.b) := by
          refine ⟨fun k hk hm => ?_, fun x hx hm => ?_⟩
          · rcases hN3 k hm with h1 | h1
            · exact HMq.out.1 k hk h1
            · have h2 := (ho5.lt k hk).2
              omega
          · rcases hN3 _ hm with h1 | h1
            · exact HMq.out.2 x hx h1
            · have h2 := lt_of_blk ((HHq.out x hx).below HB5.out)
              omega
        clear hkp hI1 hI2 hZ3 hN2 hN3 ho5
        gi_wp2
        gi_roundg (m - (q + 1))
        case rel => exact ⟨q + 1, M', rfl, by go_num, by omega, HM3, HJ3, HZ3, HO3, HH3⟩
        case measure => omega
      · have HX3 : Hid _ := hX3
        clear hX3
        gi_wp2
        refine bodyPost_ret (results_none rfl _ _ _) rfl ?_
        exact ⟨⟨_, rfl⟩, .inr ⟨c3, HX3.out⟩⟩
    · obtain rfl : q = m := by omega
      gi_wp2
      refine bodyPost_end (results_none rfl _ _ _) rfl ?_
      exact ⟨⟨_, rfl⟩, .inl ⟨HEJ.out M _ (by rw [HM.out]; exact HJq.out), HZq.out⟩⟩
end Go.Proofs.YtbblckcjedjbcaaGreatDoor
