import Derived.Test.YtlidkieljiebiaaQTwinP
import Derived.Test.YtlidkieljiebiaaQSameC
namespace Go.Proofs.Ytlidkieljiebiaa
open Go.RowKit
set_option linter.unusedVariables false
set_option linter.unusedSimpArgs false

/-- What is handed in lies at the desk. -/
structure HandT (w : World) (mv : Value) (l : List TgT) (L us : List Value) : Prop where
  row : w.ownsRow 0 88 5 mv (l.length + 1) (((l.zip us).flatMap fun x => tgCs x.1 x.2) ++ tgCs ⟨777, ⟨#[]⟩, ⟨#[]⟩, 0, []⟩ (.slice none 0 0))
  len : us.length = l.length
  le : l.length ≤ L.length
  each : ∀ (i : Nat) (t : TgT) (r u : Value), l[i]? = some t → L[i]? = some r → us[i]? = some u → UsAt w t r u
theorem zip_at {l : List TgT} {us : List Value} (hlen : us.length = l.length) {i : Nat} {t : TgT} (h : l[i]? = some t) : ∃ u, us[i]? = some u ∧ (l.zip us)[i]? = some (t, u) := by
  have hi := (List.getElem?_eq_some_iff.1 h).1
  refine ⟨us[i]'(by omega), List.getElem?_eq_getElem _, ?_⟩
  rw [List.getElem?_zip_eq_some]
  exact ⟨h, List.getElem?_eq_getElem _⟩
/-- The changes that are handed in, with the one behind them. -/
theorem HandT.cells {w : World} {mv : Value} {l : List TgT} {L us : List Value} (h : HandT w mv l L us) : ∃ g c, mv = .slice (some ⟨g, 0, none⟩) (l.length + 1) c ∧ l.length + 1 ≤ c ∧ g < w.heap.size ∧ (∀ (i : Nat) (t : TgT) (u : Value), l[i]? = some t → us[i]? = some u → ∀ j y, (tgCs t u)[j]? = some y → w.cell? ⟨g, i * 5 + j, none⟩ = some y) ∧ ∀ j y, (tgCs ⟨777, ⟨#[]⟩, ⟨#[]⟩, 0, []⟩ (.slice none 0 0))[j]? = some y → w.cell? ⟨g, l.length * 5 + j, none⟩ = some y := by
  obtain ⟨g, c, rfl⟩ := row_some h.row
  have hz : (l.zip us).length = l.length := by rw [List.length_zip, h.len, Nat.min_self]
  have key : w.ownsRow 0 88 5 (.slice (some ⟨g, 0, none⟩) (l.length + 1) c) ((l.zip us ++ [((⟨777, ⟨#[]⟩, ⟨#[]⟩, 0, []⟩ : TgT), Value.slice none 0 0)]).length) ((l.zip us ++ [((⟨777, ⟨#[]⟩, ⟨#[]⟩, 0, []⟩ : TgT), Value.slice none 0 0)]).flatMap fun x => tgCs x.1 x.2) := by
    rw [List.length_append, hz, List.flatMap_append]
    have := h.row
    simpa using this
  obtain ⟨a, c', hv, hc, _, hr⟩ := row_cells (cells := fun x : TgT × Value => tgCs x.1 x.2) (fun _ => rfl) key
  rcases hr with hr | ⟨g', rfl, ho, _, hlt, hx⟩
  · simp at hr
  · cases ho
    simp only [Value.slice.injEq] at hv
    obtain ⟨_, _, rfl⟩ := hv
    refine ⟨g, c, rfl, by rw [List.length_append, hz] at hc; exact hc, hlt, fun i t u ht hu j y hy => ?_, fun j y hy => ?_⟩
    · have h1 : (l.zip us ++ [((⟨777, ⟨#[]⟩, ⟨#[]⟩, 0, []⟩ : TgT), Value.slice none 0 0)])[i]? = some (t, u) := by
        rw [List.getElem?_append_left (by rw [hz]; exact (List.getElem?_eq_some_iff.1 ht).1), List.getElem?_zip_eq_some]
        exact ⟨ht, hu⟩
      have := hx i (t, u) h1 j y hy
      rw [Nat.zero_add] at this
      exact this
    · have h1 : (l.zip us ++ [((⟨777, ⟨#[]⟩, ⟨#[]⟩, 0, []⟩ : TgT), Value.slice none 0 0)])[l.length]? = some (⟨777, ⟨#[]⟩, ⟨#[]⟩, 0, []⟩, .slice none 0 0) := by
        rw [List.getElem?_append_right (by rw [hz]; exact Nat.le_refl _), hz, Nat.sub_self]
        rfl
      have := hx l.length _ h1 j y hy
      rw [Nat.zero_add] at this
      exact this
/-- The tags of one change: they lie there, and the mark behind them. -/
theorem UsAt.ints {w : World} {t : TgT} {r u : Value} (h : UsAt w t r u) {S : Nat → Prop} (hS : ∀ k, r.ownBlock = some k → S k) : ∃ k c, u = .slice (some ⟨k, 0, none⟩) t.tags.length c ∧ r.ownBlock = some k ∧ t.tags.length + 1 ≤ c ∧ w.cell? ⟨k, t.tags.length, none⟩ = some (.int .i64 777) ∧ IntsAt w S u t.tags := by
  obtain ⟨k, c, hr, hu⟩ := h.eq
  subst hr hu
  have hrow := h.row
  obtain ⟨_, _, hv, hc⟩ := row_form hrow
  cases hv
  have hl1 : (t.tags.flatMap fun y => [Value.int .i64 y]).length = t.tags.length := by have := flat_len (cells := fun y : Int => [Value.int .i64 y]) (sz := 1) (fun _ => rfl) t.tags; simpa using this
  refine ⟨k, c, rfl, rfl, hc, ?_, ?_⟩
  · obtain ⟨g, cur, hg, _, hcell⟩ := row_get1 hrow (i := t.tags.length) (x := .int .i64 777) (by rw [List.getElem?_append_right (by rw [hl1]; exact Nat.le_refl _), hl1, Nat.sub_self]; rfl)
    cases hg
    exact hcell
  · have := row_cut hrow (m := t.tags.length) (Nat.le_succ _)
    rw [Nat.mul_one, List.take_append_of_le_length (by rw [hl1]; exact Nat.le_refl _), List.take_of_length_le (by rw [hl1]; exact Nat.le_refl _)] at this
    exact ints_row this (fun j hj => hS j hj)
/-- So they may be handed in. -/
theorem HandT.tgs {w : World} {mv : Value} {l : List TgT} {L us : List Value} (h : HandT w mv l L us) {S : Nat → Prop} (h1 : ∀ k, mv.ownBlock = some k → S k) (h2 : ∀ t ∈ L, ∀ k, t.ownBlock = some k → S k) : ∃ g c, mv = .slice (some ⟨g, 0, none⟩) (l.length + 1) c ∧ l.length + 1 ≤ c ∧ TgsAt w S (.slice (some ⟨g, 0, none⟩) l.length c) l := by
  obtain ⟨g, c, rfl, hc, hlt, hx, _⟩ := h.cells
  refine ⟨g, c, rfl, hc, ⟨_, _, rfl, by omega, (fun h => by cases h), .inr ⟨g, 0, rfl, h1 g rfl, hlt, fun i t ht => ?_⟩⟩⟩
  obtain ⟨u, hu, _⟩ := zip_at h.len ht
  have hi := (List.getElem?_eq_some_iff.1 ht).1
  obtain ⟨r, hr⟩ : ∃ r, L[i]? = some r := ⟨L[i]'(by have := h.le; omega), List.getElem?_eq_getElem _⟩
  obtain ⟨k, c', _, _, _, _, hint⟩ := (h.each i t r u ht hr hu).ints (S := S) (fun k hk => h2 r (List.mem_of_getElem? hr) k hk)
  rw [Nat.zero_add]
  exact ⟨u, hx i t u ht hu 0 _ rfl, hx i t u ht hu 1 _ rfl, hx i t u ht hu 2 _ rfl, hx i t u ht hu 3 _ rfl, hx i t u ht hu 4 _ rfl, hint⟩
end Go.Proofs.Ytlidkieljiebiaa
namespace Go.Proofs.Ytlidkieljiebiaa
open Go.RowKit
set_option linter.unusedVariables false
set_option linter.unusedSimpArgs false

theorem HandT.below {w w' : World} {mv : Value} {l : List TgT} {L us : List Value} (h : HandT w mv l L us) (hb : Below w.heap.size w w') : HandT w' mv l L us :=
  ⟨owns_below h.row hb, h.len, h.le, fun i t r u ht hr hu => ⟨(h.each i t r u ht hr hu).eq, owns_below (h.each i t r u ht hr hu).row hb⟩⟩
set_option maxHeartbeats 3200000 in
set_option maxRecDepth 100000 in
theorem whole_any (mv vl : Value) (l : List TgT) (L us : List Value) (w : World) (P : Nat → Prop) (h : HandT w mv l L us) (hl : TgsAt w P vl l) (hs : TgsSmall l) :
    Calls Try.prog 51 #[mv, vl] w fun e w' => e = .returned (.bool true) ∧ Below w.heap.size w w' := by
  obtain ⟨la, lc, rfl, _⟩ := RowAt.form hl
  obtain ⟨g, c, rfl, hc, hg, hx, hend⟩ := h.cells
  obtain ⟨_, _, hv, _, htg⟩ := h.tgs (S := fun _ => True) (fun _ _ => trivial) (fun _ _ _ _ => trivial)
  cases hv
  obtain ⟨n, hn⟩ : ∃ n, l.length = n := ⟨_, rfl⟩
  rw [hn] at hc hl htg hend ⊢
  have HN : Hid (l.length = n) := hn
  have hn1 : n ≤ 140737488355328 := by have := hs.len; unfold MaxRow at this; omega
  have HH : Hid (HandT w (.slice (some ⟨g, 0, none⟩) (l.length + 1) c) l L us) := h
  have HC : Hid (∀ w', Below w.heap.size w w' → _) := fun w' hb => changes_same (.slice (some ⟨g, 0, none⟩) n c) (.slice la n lc) l w' _ _ (TgsAt.keep htg (Kp.of_below hb _)) (TgsAt.keep hl (Kp.of_below hb _)) hs
  have HX : Hid (∀ (i : Nat) (t : TgT) (u : Value), l[i]? = some t → us[i]? = some u → w.cell? ⟨g, i * 5 + 4, none⟩ = some u) := fun i t u ht hu => hx i t u ht hu 4 _ rfl
  have HE : Hid (w.cell? ⟨g, n * 5, none⟩ = some (.int .i64 777) ∧ w.cell? ⟨g, n * 5 + 4, none⟩ = some (.slice none 0 0)) := ⟨hend 0 _ rfl, hend 4 _ rfl⟩
  have HG : Hid (g < w.heap.size) := hg
  have HSM : Hid (TgsSmall l) := hs
  clear h hl hs hx hend htg hn hg
  go_enter Try.func51, Try.ntmps51
  go_wp2_with fail
  go_loopw [6] (fun i wr => ∃ q : Nat, i = .int .i64 q ∧ q ≤ n ∧ wr = w) (fun i _ => n - (intOf i).toNat)
  case atStart => exact ⟨0, rfl, Nat.zero_le _, rfl⟩
  case round =>
    obtain ⟨q, rfl, hq, hw⟩ := hrel
    subst hw
    by_cases hlt : q < n
    · have hqi : (q : Int) < (n : Int) := by omega
      have hqi2 : (q : Int) < (n : Int) + 1 := by omega
      obtain ⟨x, hx⟩ : ∃ x, l[q]? = some x := ⟨l[q]'(by rw [HN.out]; exact hlt), List.getElem?_eq_getElem _⟩
      obtain ⟨u, hu, _⟩ := zip_at HH.out.len hx
      obtain ⟨r, hr⟩ : ∃ r, L[q]? = some r := ⟨L[q]'(by have := HH.out.le; rw [HN.out] at this; omega), List.getElem?_eq_getElem _⟩
      have x4 := HX.out q x u hx hu
      obtain ⟨k, kc, rfl, _, hkc, h777, _⟩ := (HH.out.each q x r u hx hr hu).ints (S := fun _ => True) (fun _ _ => trivial)
      obtain ⟨tn, htn⟩ : ∃ z, x.tags.length = z := ⟨_, rfl⟩
      have htn1 : tn ≤ 140737488355328 := by rw [← htn]; have := (HSM.out.each x (List.mem_of_getElem? hx)).len; unfold MaxRow at this; omega
      rw [htn] at x4 hkc h777
      have hkc' : (tn : Int) + 1 ≤ (kc : Int) := by omega
      have hti : (tn : Int) < (tn : Int) + 1 := by omega
      clear hx hu hr htn
      go_wp2_with fail
      go_roundw
      case rel => exact ⟨q + 1, by go_num, by omega, by trivial⟩
      case measure => simp [intOf]; omega
    · obtain rfl : q = n := by omega
      have hge : ¬ (q : Int) < (q : Int) := by omega
      have hnc : (q : Int) ≤ (c : Int) := by omega
      have hnc2 : q ≤ c := by omega
      have hni : (q : Int) < (q : Int) + 1 := by omega
      go_wp2_with fail
      refine Calls.mono (HC.out _ (Below.refl _ _)) ?_
      rintro e w8 ⟨rfl, hb8⟩
      have e0 : w8.cell? ⟨g, q * 5, none⟩ = some (.int .i64 777) := by rw [hb8.cell (p := ⟨g, q * 5, none⟩) HG.out]; exact HE.out.1
      have e4 : w8.cell? ⟨g, q * 5 + 4, none⟩ = some (.slice none 0 0) := by rw [hb8.cell (p := ⟨g, q * 5 + 4, none⟩) HG.out]; exact HE.out.2
      have HB8 : Hid _ := hb8
      clear hb8
      go_wp2_with fail
      go_ret
      exact ⟨rfl, HB8.out⟩
end Go.Proofs.Ytlidkieljiebiaa
