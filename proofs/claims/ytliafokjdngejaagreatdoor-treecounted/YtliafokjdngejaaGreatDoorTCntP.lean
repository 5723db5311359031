import Derived.Test.YtliafokjdngejaaGreatDoorTReadF
import Derived.Deep.RegionHeld3
import Derived.Test.YtliafokjdngejaaGreatDoorTTellsP
import Derived.Test.YtliafokjdngejaaGreatDoorTSound
import Derived.Test.YtliafokjdngejaaGreatDoorJoin
namespace Go.Proofs.YtliafokjdngejaaGreatDoor
open Go.RowKit Go.Maps Go.WideShapes
set_option linter.unusedVariables false
set_option linter.unusedSimpArgs false
attribute [local go_sem ↓] Go.wp_at_zero Go.wp_at_succ

/-- What a reading op is to answer. -/
def wantC (T : List Nd) (p : ByteArray) (k v : Int) : Int :=
  if (parse p).1 ≠ 0 then 10 else match fnd T p with
    | none => 40
    | some x => if k = 4 ∧ v ≠ -1 ∧ v ≠ x.v then 42 else 0
def rdR (T : List Nd) (x : Nd) (k : Int) : ResT := ⟨x.p, if k = 5 then x.d else ⟨#[]⟩, x.v, x.m, x.c, x.o, if k = 7 then kidsM T x.p else []⟩
theorem one_read (T : List Nd) (p : ByteArray) (k v : Int) (h4 : 4 ≤ k) (h7 : k ≤ 7) : oneM T 1 1 ⟨k, p, ⟨#[]⟩, v, 0⟩ = (wantC T p k v, T, if wantC T p k v = 0 then (match fnd T p with | some x => rdR T x k | none => zr) else zr, []) := by
  have hm : malC 1 k p ⟨#[]⟩ 0 = if (parse p).1 ≠ 0 then 10 else 0 := by
    unfold malC
    rw [if_neg (by omega), if_neg (by omega)]
    by_cases hp : (parse p).1 = 0
    · rw [if_neg (by simp [hp]), if_neg (by omega), if_neg (by omega), if_neg (by omega), if_neg (by simpa using hp)]
    · rw [if_pos (.inl hp), if_pos hp]
  unfold oneM wantC
  simp only [hm]
  by_cases hp : (parse p).1 = 0
  · have hp' : ¬ ((parse p).1 ≠ 0) := by simpa using hp
    rw [if_neg hp', if_neg hp', if_neg (by omega), if_neg (by omega)]
    cases hf : fnd T p with
    | none => simp
    | some x =>
      have hmis : misC k v x.v (kidsM T x.p) = if k = 4 ∧ v ≠ -1 ∧ v ≠ x.v then 42 else 0 := by
        unfold misC
        by_cases h : k = 4 ∧ v ≠ -1 ∧ v ≠ x.v
        · rw [if_pos ⟨.inr (.inr h.1), h.2⟩, if_pos h]
        · rw [if_neg (fun h9 => h ⟨by omega, h9.2⟩), if_neg h, if_neg (by omega), if_neg (by omega)]
      show (if misC k v x.v (kidsM T x.p) ≠ 0 then _ else _) = _
      rw [hmis]
      by_cases h : k = 4 ∧ v ≠ -1 ∧ v ≠ x.v
      · simp [h]
      · simp only [if_neg h]
        have e2 : ¬ k = 2 := by omega
        have e3 : ¬ k = 3 := by omega
        simp [restM, e2, e3, rdR]
  · simp [hp]
theorem play_rd (T : List Nd) (p : ByteArray) (k v : Int) (h4 : 4 ≤ k) (h7 : k ≤ 7) : playM T 1 1 [⟨k, p, ⟨#[]⟩, v, 0⟩] = ⟨wantC T p k v, 0, T, if wantC T p k v = 0 then [match fnd T p with | some x => rdR T x k | none => zr] else [], []⟩ := by
  unfold playM
  rw [if_neg (by simp [mayC])]
  unfold playL
  rw [one_read T p k v h4 h7]
  by_cases hw : wantC T p k v = 0
  · simp only [hw]
    rw [if_neg (by simp)]
    simp [playL]
  · simp only []
    rw [if_pos hw, if_neg hw]
end Go.Proofs.YtliafokjdngejaaGreatDoor
namespace Go.Proofs.YtliafokjdngejaaGreatDoor
open Go.RowKit Go.Maps Go.WideShapes
set_option linter.unusedVariables false
set_option linter.unusedSimpArgs false

abbrev pQ : ByteArray := ⟨#[47, 113]⟩
abbrev pP : ByteArray := ⟨#[47, 113, 47, 112, 108, 97, 105, 110]⟩
def cnt (p : ByteArray) (j : Nat) : ByteArray := mk (p.data.toList ++ five j)
/-- A place below /q whose name may be counted. -/
structure CP (p b : ByteArray) : Prop where
  par : parse p = (0, [mk [113], b])
  siz : b.size ≤ 11
structure CG (p : ByteArray) (T : List Nd) (n : Nat) : Prop where
  snd : Snd T
  q : ∃ u ∈ T, u.p = pQ ∧ u.o = 0 ∧ u.k = n
  mem : ∀ x ∈ T, x.p = pRt ∨ x.p = pQ ∨ x.p = pP ∨ ∃ j, j < n ∧ x.p = cnt p j
  len : T.length ≤ 2 + n + (if (fnd T pP).isSome = true then 1 else 0)
theorem five_inj {a b : Nat} (ha : a < 100000) (hb : b < 100000) (h : five a = five b) : a = b := by
  unfold five at h
  simp only [List.cons.injEq, and_true] at h
  obtain ⟨h1, h2, h3, h4, h5⟩ := h
  have g : ∀ x y : Nat, x < 10 → y < 10 → UInt8.ofNat (48 + x) = UInt8.ofNat (48 + y) → x = y := fun x y hx hy e => by
    have := congrArg UInt8.toNat e
    rw [dig_nat hx, dig_nat hy] at this
    omega
  have e1 := g _ _ (Nat.mod_lt _ (by decide)) (Nat.mod_lt _ (by decide)) h1
  have e2 := g _ _ (Nat.mod_lt _ (by decide)) (Nat.mod_lt _ (by decide)) h2
  have e3 := g _ _ (Nat.mod_lt _ (by decide)) (Nat.mod_lt _ (by decide)) h3
  have e4 := g _ _ (Nat.mod_lt _ (by decide)) (Nat.mod_lt _ (by decide)) h4
  have e5 := g _ _ (Nat.mod_lt _ (by decide)) (Nat.mod_lt _ (by decide)) h5
  omega
theorem cnt_data (p : ByteArray) (j : Nat) : (cnt p j).data.toList = p.data.toList ++ five j := data_mk _
theorem cnt_inj {p : ByteArray} {a b : Nat} (ha : a < 100000) (hb : b < 100000) (h : cnt p a = cnt p b) : a = b := by
  have h1 := congrArg (fun s : ByteArray => s.data.toList) h
  simp only [cnt_data] at h1
  exact five_inj ha hb (List.append_cancel_left h1)
theorem cnt_last {p : ByteArray} {j : Nat} : ∃ d, d < 10 ∧ (cnt p j).data.toList.getLast? = some (UInt8.ofNat (48 + d)) := by
  refine ⟨j % 10, Nat.mod_lt _ (by decide), ?_⟩
  rw [cnt_data]
  unfold five
  simp
theorem cnt_ne {p : ByteArray} {j : Nat} {s : ByteArray} {c : UInt8} (hs : s.data.toList.getLast? = some c) (hc : ∀ d, d < 10 → UInt8.ofNat (48 + d) ≠ c) : cnt p j ≠ s := fun e => by
  obtain ⟨d, hd, h⟩ := cnt_last (p := p) (j := j)
  rw [e, hs] at h
  exact hc d hd (Option.some.inj h).symm
theorem dig_ne {c : UInt8} (h : ∀ d : Fin 10, UInt8.ofNat (48 + d.val) ≠ c) : ∀ d, d < 10 → UInt8.ofNat (48 + d) ≠ c := fun d hd => h ⟨d, hd⟩
theorem cnt_rt (p : ByteArray) (j : Nat) : cnt p j ≠ pRt := cnt_ne (c := 47) rfl (dig_ne (by decide))
theorem cnt_q (p : ByteArray) (j : Nat) : cnt p j ≠ pQ := cnt_ne (c := 113) rfl (dig_ne (by decide))
theorem cnt_p (p : ByteArray) (j : Nat) : cnt p j ≠ pP := cnt_ne (c := 110) rfl (dig_ne (by decide))
theorem cnt_no (p : ByteArray) (j : Nat) : cnt p j ≠ ⟨#[]⟩ := fun e => by
  have h1 := congrArg (fun s : ByteArray => s.data.toList.length) e
  simp only [cnt_data] at h1
  simp [five] at h1
theorem CP.rt {p b : ByteArray} (h : CP p b) : p ≠ pRt := fun e => by
  have := h.par
  rw [e, show parse pRt = (0, []) by kernel_rfl] at this
  simp at this
theorem CP.up {p b : ByteArray} (h : CP p b) : parB p = pQ := by
  unfold parB
  rw [h.par]
  kernel_rfl
theorem CP.last {p b : ByteArray} (h : CP p b) : lastN p = b := by
  unfold lastN
  rw [h.par]
  rfl
theorem parP : parB pP = pQ := by kernel_rfl
theorem CG.fq {p : ByteArray} {T : List Nd} {n : Nat} (h : CG p T n) : ∃ u, fnd T pQ = some u ∧ u ∈ T ∧ u.p = pQ ∧ u.o = 0 ∧ u.k = n := by
  obtain ⟨u, hu, h1, h2, h3⟩ := h.q
  cases hf : fnd T pQ with
  | none => exact absurd h1 (fnd_none hf u hu)
  | some v =>
    have hv := fnd_some hf
    obtain rfl := inv_uniq h.snd.inv hv.1 hu (hv.2.trans h1.symm)
    exact ⟨v, rfl, hu, h1, h2, h3⟩
theorem fnd_isSome {T : List Nd} {s : ByteArray} : (fnd T s).isSome = true ↔ ∃ x ∈ T, x.p = s := by
  constructor
  · intro h
    obtain ⟨x, hx⟩ := Option.isSome_iff_exists.1 h
    exact ⟨x, (fnd_some hx).1, (fnd_some hx).2⟩
  · rintro ⟨x, hx, e⟩
    cases hf : fnd T s with
    | none => exact absurd e (fnd_none hf x hx)
    | some y => rfl
theorem upd_places {T : List Nd} {y : Nd} {s : ByteArray} (h : ∃ x ∈ upd T y, x.p = s) : ∃ x ∈ T, x.p = s := by
  obtain ⟨x, hx, e⟩ := h
  have h1 : s ∈ (upd T y).map Nd.p := by rw [← e]; exact List.mem_map_of_mem hx
  rw [upd_map] at h1
  obtain ⟨z, hz, e2⟩ := List.mem_map.1 h1
  exact ⟨z, hz, e2⟩
theorem places_upd {T : List Nd} {y : Nd} {s : ByteArray} (h : ∃ x ∈ T, x.p = s) : ∃ x ∈ upd T y, x.p = s := by
  obtain ⟨x, hx, e⟩ := h
  have h1 : s ∈ T.map Nd.p := by rw [← e]; exact List.mem_map_of_mem hx
  rw [← upd_map T y] at h1
  obtain ⟨z, hz, e2⟩ := List.mem_map.1 h1
  exact ⟨z, hz, e2⟩
/-- One more counted node. -/
theorem CG.make {p b : ByteArray} (hp : CP p b) {T : List Nd} {n : Nat} (h : CG p T n) (hn : n ≤ 60) : ∃ T', oneM T 1 2 ⟨1, p, ⟨#[]⟩, 0, 2⟩ = (0, T', ⟨cnt p n, ⟨#[]⟩, 0, 2, 2, 0, []⟩, [⟨1, cnt p n, ⟨#[]⟩, 0⟩]) ∧ CG p T' (n + 1) := by
  obtain ⟨u, hfu, hu, hup, huo, huk⟩ := h.fq
  have hmal : malC 1 1 p ⟨#[]⟩ 2 = 0 := by
    unfold malC
    rw [if_neg (by omega), if_neg (by omega), if_neg, if_neg, if_neg (by omega), if_neg]
    · rintro ⟨_, h9⟩
      exact absurd h9 (by decide)
    · rintro ⟨_, h9⟩
      exact hp.rt h9
    · rw [hp.par, hp.last]
      have := hp.siz
      simp
      omega
  have hat : atOf p 2 u.k = cnt p n := by
    unfold atOf cnt
    rw [if_pos (by omega), huk]
    simp
  have hno : fnd T (cnt p n) = none := by
    cases hf : fnd T (cnt p n) with
    | none => rfl
    | some x =>
      exfalso
      have hx := fnd_some hf
      rcases h.mem x hx.1 with e | e | e | ⟨j, hj, e⟩
      · exact cnt_rt p n (hx.2 ▸ e)
      · exact cnt_q p n (hx.2 ▸ e)
      · exact cnt_p p n (hx.2 ▸ e)
      · have := cnt_inj (by omega) (by omega) (hx.2.symm.trans e)
        omega
  have hlen : ¬ 64 ≤ T.length := by
    have := h.len
    split at this <;> omega
  have e1 : oneM T 1 2 ⟨1, p, ⟨#[]⟩, 0, 2⟩ = (0, ins ⟨cnt p n, ⟨#[]⟩, 0, 2, 2, 0, 0⟩ (upd T { u with k := u.k + 1 }), ⟨cnt p n, ⟨#[]⟩, 0, 2, 2, 0, []⟩, [⟨1, cnt p n, ⟨#[]⟩, 0⟩]) := by
    unfold oneM
    simp only [hmal]
    unfold makeM
    simp only [hp.up, hfu]
    simp only [huo, hat, hno]
    rw [if_neg (by simp), if_pos trivial, if_neg (by simp), if_neg (by omega), if_neg (by simp), if_neg hlen]
    simp
  refine ⟨_, e1, ?_⟩
  have hs := h.snd.one 1 2 ⟨1, p, ⟨#[]⟩, 0, 2⟩
  rw [e1] at hs
  have hm : ∀ x, x ∈ ins ⟨cnt p n, ⟨#[]⟩, 0, 2, 2, 0, 0⟩ (upd T { u with k := u.k + 1 }) ↔ x = ⟨cnt p n, ⟨#[]⟩, 0, 2, 2, 0, 0⟩ ∨ x ∈ upd T { u with k := u.k + 1 } := fun x => by
    rw [(ins_perm _ _).mem_iff, List.mem_cons]
  refine ⟨hs, ⟨{ u with k := u.k + 1 }, (hm _).2 (.inr (mem_upd hu rfl)), hup, huo, by show u.k + 1 = _; rw [huk]; push_cast; rfl⟩, fun x hx => ?_, ?_⟩
  · rcases (hm x).1 hx with rfl | hx
    · exact .inr (.inr (.inr ⟨n, by omega, rfl⟩))
    · obtain ⟨z, hz, e⟩ := upd_places ⟨x, hx, rfl⟩
      rw [← e]
      rcases h.mem z hz with e | e | e | ⟨j, hj, e⟩
      · exact .inl e
      · exact .inr (.inl e)
      · exact .inr (.inr (.inl e))
      · exact .inr (.inr (.inr ⟨j, by omega, e⟩))
  · rw [ins_len, upd_len]
    have h1 := h.len
    by_cases hf : (fnd T pP).isSome = true
    · have hf2 : (fnd (ins ⟨cnt p n, ⟨#[]⟩, 0, 2, 2, 0, 0⟩ (upd T { u with k := u.k + 1 })) pP).isSome = true := by
        rw [fnd_isSome] at hf ⊢
        obtain ⟨z, hz, e⟩ := places_upd (y := { u with k := u.k + 1 }) hf
        exact ⟨z, (hm z).2 (.inr hz), e⟩
      rw [if_pos hf] at h1
      rw [if_pos hf2]
      omega
    · rw [if_neg hf] at h1
      omega
theorem CG.plain {p b : ByteArray} (hp : CP p b) {T : List Nd} {n : Nat} (h : CG p T n) : CG p (oneM T 1 2 ⟨1, pP, ⟨#[]⟩, 0, 0⟩).2.1 n := by
  have hs := h.snd.one 1 2 ⟨1, pP, ⟨#[]⟩, 0, 0⟩
  obtain ⟨u, hfu, hu, hup, huo, huk⟩ := h.fq
  have hmal : malC 1 1 pP ⟨#[]⟩ 0 = 0 := by kernel_rfl
  have hat : atOf pP 0 u.k = pP := by unfold atOf; rw [if_neg (by omega)]
  have e1 : (oneM T 1 2 ⟨1, pP, ⟨#[]⟩, 0, 0⟩).2.1 = T ∨ ((fnd T pP).isSome = false ∧ (oneM T 1 2 ⟨1, pP, ⟨#[]⟩, 0, 0⟩).2.1 = ins ⟨pP, ⟨#[]⟩, 0, 2, 2, 0, 0⟩ (upd T { u with k := u.k })) := by
    unfold oneM
    simp only [hmal]
    rw [if_neg (by simp), if_pos trivial]
    unfold makeM
    simp only [parP, hfu, hat]
    rw [if_neg (by simpa using huo), if_neg (by omega)]
    split
    · exact .inl rfl
    rename_i hf
    split
    · exact .inl rfl
    · exact .inr ⟨by simpa using hf, by simp⟩
  rcases e1 with e1 | ⟨hf, e1⟩
  · rw [e1]
    exact h
  rw [e1] at hs ⊢
  have hm : ∀ x, x ∈ ins ⟨pP, ⟨#[]⟩, 0, 2, 2, 0, 0⟩ (upd T { u with k := u.k }) ↔ x = ⟨pP, ⟨#[]⟩, 0, 2, 2, 0, 0⟩ ∨ x ∈ upd T { u with k := u.k } := fun x => by
    rw [(ins_perm _ _).mem_iff, List.mem_cons]
  refine ⟨hs, ⟨{ u with k := u.k }, (hm _).2 (.inr (mem_upd hu rfl)), hup, huo, huk⟩, fun x hx => ?_, ?_⟩
  · rcases (hm x).1 hx with rfl | hx
    · exact .inr (.inr (.inl rfl))
    · obtain ⟨z, hz, e⟩ := upd_places ⟨x, hx, rfl⟩
      rw [← e]
      exact h.mem z hz
  · rw [ins_len, upd_len]
    have h1 := h.len
    rw [if_neg (by rw [hf]; simp)] at h1
    have hf2 : (fnd (ins ⟨pP, ⟨#[]⟩, 0, 2, 2, 0, 0⟩ (upd T { u with k := u.k })) pP).isSome = true := by
      rw [fnd_isSome]
      exact ⟨_, (hm _).2 (.inl rfl), rfl⟩
    rw [if_pos hf2]
    omega
theorem CG.drop {p : ByteArray} {T : List Nd} {n : Nat} (h : CG p T n) (hn : n ≤ 60) {la : ByteArray} (hl : la = ⟨#[]⟩ ∨ ∃ j, j < n ∧ la = cnt p j) : CG p (oneM T 1 2 ⟨3, la, ⟨#[]⟩, -1, 0⟩).2.1 n := by
  have hs := h.snd.one 1 2 ⟨3, la, ⟨#[]⟩, -1, 0⟩
  revert hs
  unfold oneM
  split
  · exact fun _ => h
  rw [if_neg (show ¬ (3 : Int) = 1 by decide)]
  split
  · exact fun _ => h
  rename_i x hf
  have hx := fnd_some hf
  split
  · exact fun _ => h
  unfold restM
  rw [if_neg (show ¬ (3 : Int) = 2 by decide), if_pos (show (3 : Int) = 3 from rfl)]
  intro hs
  have hne : ∀ s : ByteArray, s ≠ ⟨#[]⟩ → (∀ j, cnt p j ≠ s) → s ≠ x.p := fun s h1 h2 e => by
    rw [hx.2] at e
    rcases hl with rfl | ⟨j, _, rfl⟩
    · exact h1 e
    · exact h2 j e.symm
  obtain ⟨u, _, hu, hup, huo, huk⟩ := h.fq
  refine ⟨hs, ⟨u, List.mem_filter.2 ⟨hu, by have := hne pQ (by decide) (fun j => cnt_q p j); rw [hup]; simpa using this⟩, hup, huo, huk⟩, fun y hy => h.mem y (List.mem_filter.1 hy).1, ?_⟩
  have h1 := h.len
  have h2 : (T.filter (fun y => decide (y.p ≠ x.p))).length ≤ T.length := List.length_filter_le _ _
  show (T.filter (fun y => decide (y.p ≠ x.p))).length ≤ _
  by_cases hfp : (fnd T pP).isSome = true
  · have hf2 : (fnd (T.filter (fun y => decide (y.p ≠ x.p))) pP).isSome = true := by
      rw [fnd_isSome] at hfp ⊢
      obtain ⟨z, hz, e⟩ := hfp
      refine ⟨z, List.mem_filter.2 ⟨hz, ?_⟩, e⟩
      have := hne pP (by decide) (fun j => cnt_p p j)
      rw [e]
      simpa using this
    rw [if_pos hfp] at h1
    show _ ≤ 2 + n + (if (fnd (T.filter (fun y => decide (y.p ≠ x.p))) pP).isSome = true then 1 else 0)
    rw [if_pos hf2]
    omega
  · rw [if_neg hfp] at h1
    omega
/-- A request of one op. -/
theorem play_one (T : List Nd) (o : OpT) : playM T 1 2 [o] = if (oneM T 1 2 o).1 ≠ 0 then ⟨(oneM T 1 2 o).1, 0, T, [], []⟩ else ⟨0, 0, (oneM T 1 2 o).2.1, [(oneM T 1 2 o).2.2.1], (oneM T 1 2 o).2.2.2⟩ := by
  unfold playM
  rw [if_neg (by simp [mayC])]
  unfold playL
  split
  · rfl
  · simp [playL]
theorem oneM_err {T : List Nd} {s st : Int} {o : OpT} (h : (oneM T s st o).1 ≠ 0) : (oneM T s st o).2.1 = T := by
  revert h
  unfold oneM
  split
  · exact fun _ => rfl
  split
  · unfold makeM
    split
    · exact fun _ => rfl
    split
    · exact fun _ => rfl
    split
    · exact fun _ => rfl
    split
    · exact fun _ => rfl
    split
    · exact fun _ => rfl
    · exact fun h => absurd rfl h
  split
  · exact fun _ => rfl
  split
  · exact fun _ => rfl
  · exact fun h => absurd rfl h
theorem play_oneT (T : List Nd) (o : OpT) : (playM T 1 2 [o]).T = (oneM T 1 2 o).2.1 := by
  rw [play_one]
  split
  · rename_i h
    exact (oneM_err h).symm
  · rfl
/-- A request whose second op drops the root is refused. -/
theorem play_two (T : List Nd) (o : OpT) : (playM T 1 2 [o, ⟨3, pRt, ⟨#[]⟩, 0, 0⟩]).code ≠ 0 ∧ (playM T 1 2 [o, ⟨3, pRt, ⟨#[]⟩, 0, 0⟩]).T = T := by
  have hm : ∀ U, (oneM U 1 2 ⟨3, pRt, ⟨#[]⟩, 0, 0⟩).1 = 47 := fun U => by
    have : malC 1 3 pRt ⟨#[]⟩ 0 = 47 := by kernel_rfl
    unfold oneM
    simp [this]
  unfold playM
  rw [if_neg (by simp [mayC])]
  unfold playL
  split
  · rename_i h
    exact ⟨h, rfl⟩
  · unfold playL
    rw [if_pos (by rw [hm]; decide)]
    exact ⟨by show (oneM _ 1 2 _).1 ≠ 0; rw [hm]; decide, rfl⟩
/-- /q made. -/
theorem CG.first (p : ByteArray) : (playM [rootN] 1 1 [⟨1, pQ, ⟨#[]⟩, 0, 0⟩]).code = 0 ∧ CG p (playM [rootN] 1 1 [⟨1, pQ, ⟨#[]⟩, 0, 0⟩]).T 0 := by
  have e : playM [rootN] 1 1 [⟨1, pQ, ⟨#[]⟩, 0, 0⟩] = ⟨0, 0, [rootN, ⟨pQ, ⟨#[]⟩, 0, 1, 1, 0, 0⟩], [⟨pQ, ⟨#[]⟩, 0, 1, 1, 0, []⟩], [⟨1, pQ, ⟨#[]⟩, 0⟩]⟩ := by kernel_rfl
  have hs := Snd.new.play 1 1 [⟨1, pQ, ⟨#[]⟩, 0, 0⟩]
  rw [e] at hs ⊢
  refine ⟨rfl, hs, ⟨⟨pQ, ⟨#[]⟩, 0, 1, 1, 0, 0⟩, by simp, rfl, rfl, rfl⟩, fun x hx => ?_, by show 2 ≤ 2 + 0 + _; omega⟩
  rcases List.mem_cons.1 hx with rfl | hx
  · exact .inl rfl
  · obtain rfl := List.mem_singleton.1 hx
    exact .inr (.inl rfl)
end Go.Proofs.YtliafokjdngejaaGreatDoor
