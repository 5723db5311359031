/-
  trie: a trie by the watches that it has.
-/
import Derived.Test.YtbblckcjedjbcaaGreatDoorXSize
namespace Go.Proofs.YtbblckcjedjbcaaGreatDoor
open Go.RowKit Go.Maps
set_option linter.unusedVariables false
set_option linter.unusedSimpArgs false

/-- A session's watch. -/
structure On where
  s : Int
  i : Int
  p : ByteArray
  k : Int
  f : Int
abbrev He.on (h : He) : On := ⟨h.s, h.i, h.p, h.k, h.f⟩
abbrev befO (a b : On) : Bool := befB a.s a.i b.s b.i
def OrdO (L : List On) : Prop := L.Pairwise (fun a b => befO a b = true)
def insO (o : On) (L : List On) : List On := L.filter (fun x => befO x o) ++ o :: L.filter (fun x => !befO x o)
theorem ins_on (h : He) (hs : List He) : (insH h hs).map He.on = insO h.on (hs.map He.on) := by
  unfold insH insO
  rw [List.map_append, List.map_cons, List.filter_map, List.filter_map]
  rfl
def hasO (L : List On) (s i : Int) : Bool := L.any (fun o => decide (o.s = s) && decide (o.i = i))
theorem hasO_iff {L : List On} {s i : Int} : hasO L s i = true ↔ ∃ o ∈ L, o.s = s ∧ o.i = i := by
  unfold hasO
  rw [List.any_eq_true]
  simp
def ofO (L : List On) (s : Int) : List On := L.filter (fun o => decide (o.s = s))
theorem of_on (hs : List He) (s : Int) : (ofS hs s).map He.on = ofO (hs.map He.on) s := by
  unfold ofS ofO
  rw [List.filter_map]
  rfl
/-- What Add answers. -/
def addC (L : List On) (o : On) : Int :=
  if numsB o.s o.i o.f then 3 else if (parse o.p).1 ≠ 0 then 10 else if o.k < 1 ∨ o.k > 3 ∨ hasO L o.s o.i = true then 90 else if 4 ≤ (ofO L o.s).length then 46 else 0
theorem may_on (hs : List He) (o : On) : mayL (ofS hs o.s) false o.s o.i o.p o.k o.f = addC (hs.map He.on) o := by
  have h1 : hasH (ofS hs o.s) o.s o.i = hasO (hs.map He.on) o.s o.i := by
    rw [Bool.eq_iff_iff, hasH_iff, hasO_iff]
    constructor
    · rintro ⟨h, hh, h1, h2⟩
      exact ⟨h.on, List.mem_map.2 ⟨h, (ofS_mem.1 hh).1, rfl⟩, h1, h2⟩
    · rintro ⟨x, hx, h1, h2⟩
      obtain ⟨h, hh, rfl⟩ := List.mem_map.1 hx
      exact ⟨h, ofS_mem.2 ⟨hh, h1⟩, h1, h2⟩
  have h2 : (ofS hs o.s).length = (ofO (hs.map He.on) o.s).length := by rw [← of_on, List.length_map]
  unfold mayL addC
  rw [h1, h2]
  simp
def matB (stamp ck : Int) (cp : ByteArray) (o : On) : Bool := decide (o.f < stamp) && covers o.k o.p ck cp
def matO (L : List On) (stamp ck : Int) (cp : ByteArray) : List Tg := (L.filter (matB stamp ck cp)).map (fun o => (o.s, o.i))
theorem mat_on (hs : List He) (stamp ck : Int) (cp : ByteArray) : matT hs stamp ck cp = matO (hs.map He.on) stamp ck cp := by
  unfold matT matO
  rw [List.filter_map, List.map_map]
  rfl
/-- The places that are watched, and all above them. -/
def closeO (L : List On) : List Way := L.foldl (fun D o => addW D [] (parse o.p).2) [[]]
theorem addD_nodup {D : List Way} {q : Way} (h : D.Nodup) : (addD D q).Nodup := by
  by_cases hq : q ∈ D
  · rw [addD_in hq]; exact h
  · rw [addD_out hq, List.nodup_append]
    refine ⟨h, by simp, fun a ha b hb e => hq ?_⟩
    have e2 : b = q := by simpa using hb
    rw [← e2, ← e]
    exact ha
theorem addW_nodup {ns : List ByteArray} {D : List Way} {p : Way} (h : D.Nodup) : (addW D p ns).Nodup := by
  induction ns generalizing D p with
  | nil => exact h
  | cons n r ih => exact ih (addD_nodup h)
theorem close_fold (L : List On) (D : List Way) (hd : D.Nodup) (h0 : [] ∈ D) : (L.foldl (fun D o => addW D [] (parse o.p).2) D).Nodup ∧ ∀ q, q ∈ L.foldl (fun D o => addW D [] (parse o.p).2) D ↔ q ∈ D ∨ ∃ o ∈ L, q <+: (parse o.p).2 := by
  induction L generalizing D with
  | nil => exact ⟨hd, fun q => by simp⟩
  | cons o r ih =>
    obtain ⟨h1, h2⟩ := ih (addW D [] (parse o.p).2) (addW_nodup hd) (addW_mem h0)
    refine ⟨h1, fun q => ?_⟩
    show q ∈ r.foldl _ _ ↔ _
    rw [h2, addW_iff]
    constructor
    · rintro ((h | ⟨t, h3, h4, e⟩) | ⟨x, hx, h⟩)
      · exact .inl h
      · exact .inr ⟨o, List.mem_cons_self, by rw [e]; exact h3⟩
      · exact .inr ⟨x, List.mem_cons_of_mem _ hx, h⟩
    · rintro (h | ⟨x, hx, h⟩)
      · exact .inl (.inl h)
      · rcases List.mem_cons.1 hx with rfl | hx
        · by_cases hq : q = []
          · exact .inl (.inl (by rw [hq]; exact h0))
          · exact .inl (.inr ⟨q, h, hq, rfl⟩)
        · exact .inr ⟨x, hx, h⟩
def sizO (L : List On) : Nat := (closeO L).length
theorem same_len {A B : List Way} (ha : A.Nodup) (hb : B.Nodup) (h : ∀ q, q ∈ A ↔ q ∈ B) : A.length = B.length := Nat.le_antisymm (List.Nodup.length_le_of_subset ha (fun q hq => (h q).1 hq)) (List.Nodup.length_le_of_subset hb (fun q hq => (h q).2 hq))
theorem siz_on {w : World} {B : Nat} {y : Lay} {D : List Way} {σ : Option Nat} {τ : Int → Value} {hs : List He} (h : TrieAt w B y D σ τ hs) : D.length = sizO (hs.map He.on) := by
  obtain ⟨h1, h2⟩ := close_fold (hs.map He.on) [[]] (by simp) (by simp)
  refine same_len h.tr.dn h1 (fun q => ?_)
  rw [h.cls]
  show _ ↔ q ∈ (hs.map He.on).foldl (fun D o => addW D [] (parse o.p).2) [[]]
  rw [h2]
  constructor
  · rintro (rfl | ⟨x, hx, hp⟩)
    · exact .inl (by simp)
    · exact .inr ⟨x.on, List.mem_map.2 ⟨x, hx, rfl⟩, hp⟩
  · rintro (h | ⟨o, ho, hp⟩)
    · exact .inl (by simpa using h)
    · obtain ⟨x, hx, rfl⟩ := List.mem_map.1 ho
      exact .inr ⟨x, hx, hp⟩
/-- At B lies a trie with these watches, within K. -/
def At (w : World) (K : Nat → Prop) (B : Nat) (L : List On) : Prop :=
  ∃ y D σ τ hs, TrieAt w B y D σ τ hs ∧ hs.map He.on = L ∧ (∀ k, Tf y D σ τ k → K k) ∧ (∀ h ∈ hs, K h.b) ∧ ∀ k, K k → k < w.heap.size
theorem At.keep {w w' : World} {K S : Nat → Prop} {B : Nat} {L : List On} (h : At w K B L) (hc : Chg w w' S) (hS : ∀ k, K k → ¬ S k) : At w' K B L := by
  obtain ⟨y, D, σ, τ, hs, hT, hL, hK, hH, hZ⟩ := h
  exact ⟨y, D, σ, τ, hs, hT.chg hc (fun k hk => hS k (hK k hk)) (fun x hx => hS _ (hH x hx)), hL, hK, hH, fun k hk => Nat.lt_of_lt_of_le (hZ k hk) hc.size⟩
theorem At.below {w w' : World} {K : Nat → Prop} {B : Nat} {L : List On} (h : At w K B L) (hb : Below w.heap.size w w') : At w' K B L := h.keep (Chg.of_below hb (fun _ => False)) (fun _ _ => id)
theorem At.ord {w : World} {K : Nat → Prop} {B : Nat} {L : List On} (h : At w K B L) : OrdO L := by
  obtain ⟨y, D, σ, τ, hs, hT, rfl, hK, hH, hZ⟩ := h
  exact List.pairwise_map.2 hT.tr.ord
theorem At.ok {w : World} {K : Nat → Prop} {B : Nat} {L : List On} (h : At w K B L) : ∀ o ∈ L, (parse o.p).1 = 0 := by
  obtain ⟨y, D, σ, τ, hs, hT, rfl, hK, hH, hZ⟩ := h
  intro o ho
  obtain ⟨x, hx, rfl⟩ := List.mem_map.1 ho
  have := hT.ok x hx
  show (parse x.p).1 = 0
  rw [this]
theorem At.lt {w : World} {K : Nat → Prop} {B : Nat} {L : List On} (h : At w K B L) : ∀ k, K k → k < w.heap.size := by
  obtain ⟨y, D, σ, τ, hs, hT, rfl, hK, hH, hZ⟩ := h
  exact hZ
theorem At.inK {w : World} {K : Nat → Prop} {B : Nat} {L : List On} (h : At w K B L) : K B := by
  obtain ⟨y, D, σ, τ, hs, hT, rfl, hK, hH, hZ⟩ := h
  exact hK B (.inl (.inl ⟨[], hT.tr.root, hT.top⟩))
set_option maxHeartbeats 3200000 in
theorem newA (w : World) :
    Calls Tryz.prog 15 #[] w fun e w' => e = .returned (ndV w.heap.size) ∧ w' = w.alloc (.cells #[.map none, .slice none 0 0, .map none] 81) := by
  go_enter Tryz.func15, Tryz.ntmps15
  go_wp2_with fail
  go_ret
  exact ⟨rfl, rfl⟩
theorem At.zero {w : World} {B : Nat} (hb : w.heap[B]? = some (.cells #[.map none, .slice none 0 0, .map none] 81 (0, 0))) : At w (fun k => k = B) B [] := by
  refine ⟨⟨fun _ => B, fun _ => none, fun _ => .slice none 0 0, .map none⟩, [[]], none, fun _ => .slice none 0 0, [], ⟨⟨List.Pairwise.nil, by simp, fun p n h => ?_, by simp, fun p hp n hn => ?_, fun p hp q hq _ => ?_, fun p hp => ?_, fun p hp => World.ownsRow_nil _ _ _ _, fun p hp q hq _ k hk => (by cases hk), fun p hp => .inl ⟨rfl, fun n hn => ?_⟩, fun p hp q hq _ k hk => (by cases hk), fun h hh => (by cases hh)⟩, rfl, rfl, ⟨fun s => World.ownsRow_nil _ _ _ _, fun s t _ k hk => (by cases hk), fun s _ => rfl, .inl ⟨rfl, rfl⟩⟩, fun s p hp k hk => (by cases hk), fun p hp k hk => (by cases hk), fun h hh => (by cases hh), fun q => by simp⟩, rfl, fun k hk => ?_, fun h hh => (by cases hh), fun k hk => by rw [hk]; exact lt_of_blk hb⟩
  · simp at h
  · have : p = [] := by simpa using hp
    subst this
    cases hn
  · have h1 : p = [] := by simpa using hp
    have h2 : q = [] := by simpa using hq
    rw [h1, h2]
  · have : p = [] := by simpa using hp
    subst this
    exact ⟨_, hb, rfl, rfl, fun _ => rfl⟩
  · simp at hn
  · rcases hk with (⟨p, hp, e⟩ | ⟨p, hp, e⟩ | ⟨p, hp, e⟩) | e | ⟨s, e⟩
    · exact e.symm
    · cases e
    · cases e
    · cases e
    · cases e
/-- The tables are none of it. -/
def Gl (K : Nat → Prop) : Prop := ¬ K 0 ∧ ¬ K 1
theorem Ground.lt {w : World} (h : Ground w) : 0 < w.heap.size ∧ 1 < w.heap.size := by
  refine ⟨World.block_lt_of_cell? _ _ (h.tab 0 (by omega)), ?_⟩
  obtain ⟨m, e⟩ := h.most
  exact World.block_lt_of_cell? _ _ e
/-- What a call of a trie leaves. -/
structure AtE (w w' : World) (K K' : Nat → Prop) : Prop where
  chg : Chg w w' K
  new : ∀ k, K' k → K k ∨ w.heap.size ≤ k
theorem AtE.gl {w w' : World} {K K' : Nat → Prop} (h : AtE w w' K K') (hg : Ground w) (hK : Gl K) : Gl K' ∧ Ground w' := by
  have h1 := hg.lt
  refine ⟨⟨fun e => ?_, fun e => ?_⟩, hg.chg h.chg hK.1 hK.2⟩
  · rcases h.new _ e with e | e
    · exact hK.1 e
    · omega
  · rcases h.new _ e with e | e
    · exact hK.2 e
    · omega
set_option maxHeartbeats 1600000 in
theorem addA (w : World) (K : Nat → Prop) (B : Nat) (L : List On) (o : On) (hA : At w K B L) (hg : Ground w) (hlen : L.length ≤ 1000) (hwf : wfI o.s) :
    Calls Tryz.prog 16 #[ndV B, .int .i64 o.s, watV o.i o.p o.k o.f] w fun e w' => e = .returned (.int .i64 (addC L o)) ∧ ∃ K', At w' K' B (if addC L o = 0 then insO o L else L) ∧ AtE w w' K K' := by
  obtain ⟨y, D, σ, τ, hs, hT, rfl, hK, hH, hZ⟩ := hA
  rw [List.length_map] at hlen
  by_cases h0 : addC (hs.map He.on) o = 0
  · rw [if_pos h0, h0]
    have h1 : mayL (ofS hs o.s) false o.s o.i o.p o.k o.f = 0 := by rw [may_on]; exact h0
    have hend : ∀ (e : Ending) (w' : World), (e = .returned (.int .i64 0) ∧ Added w B y D σ τ hs o.s o.i o.p o.k o.f w') → e = .returned (.int .i64 0) ∧ ∃ K', At w' K' B (insO o (hs.map He.on)) ∧ AtE w w' K K' := by
      rintro e w' ⟨he, b, y', D', σ', τ', hb, hT', hE⟩
      refine ⟨he, fun k => Tf y' D' σ' τ' k ∨ ∃ x ∈ insH ⟨b, o.s, o.i, o.p, o.k, o.f⟩ hs, x.b = k, ⟨y', D', σ', τ', _, hT', ?_, fun k hk => .inl hk, fun x hx => .inr ⟨x, hx, rfl⟩, fun k hk => ?_⟩, hE.chg.mono (fun k _ e => hK k e), fun k hk => ?_⟩
      · rw [ins_on]
      · rcases hk with (hk | hk) | ⟨x, hx, rfl⟩
        · exact hT'.tr.lt (.inl hk)
        · exact hT'.ses.lt hk
        · exact lt_of_blk (hT'.tr.held x hx)
      · rcases hk with hk | ⟨x, hx, rfl⟩
        · exact (hE.new k hk).imp (hK k) id
        · rcases ins_mem.1 hx with rfl | hx
          · exact .inr hb
          · exact .inl (hH x hx)
    cases σ with
    | none => exact (addT_none w B y D τ hs o.s o.i o.p o.k o.f hT hg hlen hwf h1).mono hend
    | some sb => exact (addT_some w B y D sb τ hs o.s o.i o.p o.k o.f hT hg hlen hwf h1).mono hend
  · rw [if_neg h0]
    have h1 : mayL (ofS hs o.s) false o.s o.i o.p o.k o.f ≠ 0 := by rw [may_on]; exact h0
    refine (add_no w B y D σ τ hs o.s o.i o.p o.k o.f hT hg hlen hwf h1).mono ?_
    rintro e w' ⟨he, hb⟩
    rw [may_on] at he
    exact ⟨he, K, ⟨y, D, σ, τ, hs, hT.below hb, rfl, hK, hH, fun k hk => Nat.lt_of_lt_of_le (hZ k hk) hb.size⟩, Chg.of_below hb _, fun k hk => .inl hk⟩
theorem matchA (w : World) (K : Nat → Prop) (B : Nat) (L : List On) (stamp ck : Int) (cp cd : ByteArray) (cv : Int) (hA : At w K B L) (hg : Ground w) (hlen : L.length ≤ 1000) :
    Calls Tryz.prog 13 #[ndV B, .int .i64 stamp, chV ck cp cd cv] w fun e w' => ∃ v, e = .returned v ∧ w'.ownsRow w.heap.size 34 2 v (matO L stamp ck cp).length (tgCs (matO L stamp ck cp)) ∧ Below w.heap.size w w' := by
  obtain ⟨y, D, σ, τ, hs, hT, rfl, hK, hH, hZ⟩ := hA
  rw [List.length_map] at hlen
  rw [← mat_on]
  by_cases hp : (parse cp).1 = 0
  · exact match_ok B y D σ τ hs stamp ck cp cd cv w hT hg hlen hp
  · refine (match_bad B stamp ck cp cd cv w hg hp).mono ?_
    rintro e w' ⟨he, hb⟩
    refine ⟨_, he, ?_, hb⟩
    rw [match_none hp]
    exact World.ownsRow_nil _ _ _ _
theorem preB_nil (q : Way) : preB [] q = true := preB_iff.2 List.nil_prefix
set_option maxHeartbeats 3200000 in
theorem sizeA (w : World) (K : Nat → Prop) (B : Nat) (L : List On) (hA : At w K B L) (hlen : L.length ≤ 1000) :
    Calls Tryz.prog 27 #[ndV B] w fun e w' => e = .returned (.int .i64 (sizO L : Nat)) ∧ Below w.heap.size w w' := by
  obtain ⟨y, D, σ, τ, hs, hT, rfl, hK, hH, hZ⟩ := hA
  rw [List.length_map] at hlen
  have hl := hT.lenD
  have hS := size_any 6 w y D hs [] hT.tr hT.tr.root (by omega) (fun q hq _ => by
    rcases (hT.cls q).1 hq with rfl | ⟨x, hx, hp⟩
    · simp
    · have := hp.length_le
      have := (parse_len (hT.ok x hx)).1
      simp only [List.length_nil]
      omega)
  have hc : cnt D [] = D.length := by
    unfold cnt
    rw [List.filter_eq_self.2 (fun q _ => preB_nil q)]
  rw [hc, hT.top, siz_on hT] at hS
  have HS : Hid _ := hS
  clear hT hK hH hlen hl hS hc hZ
  go_enter Tryz.func27, Tryz.ntmps27
  go_wp2_with (first | (go_at_call 56; refine Calls.mono HS.out ?_; rintro e w1 ⟨rfl, hb1⟩) | fail)
  go_ret
  exact ⟨rfl, hb1⟩
theorem sizeNil (w : World) :
    Calls Tryz.prog 27 #[.pointer none] w fun e w' => e = .returned (.int .i64 0) ∧ w' = w := by
  go_enter Tryz.func27, Tryz.ntmps27
  go_wp2_with fail
  go_ret
  exact ⟨rfl, rfl⟩
end Go.Proofs.YtbblckcjedjbcaaGreatDoor
