/-
  view: what the calls of the landed service promise.
-/
import Derived.Test.YtlbhnlpdijhmlaaVSrv6
import Derived.Test.YtlbhnlpdijhmlaaVSrv9
namespace Go.Proofs.Ytlbhnlpdijhmlaa
open Go.RowKit Go.MuLone
set_option linter.unusedVariables false
set_option linter.unusedSimpArgs false

/-- A service: none, or one that lies in memory. -/
def AtV (w : World) (K : Nat → Prop) (V : SvT) (p : Value) : Prop :=
  (p = .pointer none ∧ V = ⟨0, [], false⟩ ∧ ∀ j, ¬ K j) ∨ ∃ b v, p = .pointer (some ⟨b, 0, none⟩) ∧ SrvAt w b 0 V v ∧ ∀ j, K j ↔ (j = b ∨ v.ownBlock = some j)
theorem zero_ok : (⟨0, [], false⟩ : SvT).Ok := ⟨⟨by simp, by simp⟩, by simp, fun i t h => by simp at h, fun i t u h => by simp at h, fun _ => ⟨rfl, rfl⟩⟩
theorem nil_at (w : World) : AtV w (fun _ => False) ⟨0, [], false⟩ (.pointer none) := .inl ⟨rfl, rfl, fun _ h => h⟩
theorem svE_nil {w w' : World} {K : Nat → Prop} (hK : ∀ j, ¬ K j) (hb : Below w.heap.size w w') : SvE AtV w K ⟨0, [], false⟩ (.pointer none) w' := ⟨K, .inl ⟨rfl, rfl, hK⟩, Chg.of_below hb _, fun j h => absurd h (hK j)⟩
theorem svE_same {w w' : World} {K : Nat → Prop} {b : Nat} {v : Value} {V : SvT} (hK : ∀ j, K j ↔ (j = b ∨ v.ownBlock = some j)) (h : SrvAt w' b 0 V v) (hc : Chg w w' (fun j => j = b)) : SvE AtV w K V (.pointer (some ⟨b, 0, none⟩)) w' :=
  ⟨K, .inr ⟨b, v, rfl, h, hK⟩, hc.mono (fun j _ h => (hK j).2 (.inl h)), fun j h => .inl h⟩
theorem serves : Serves AtV where
  keep := fun {w w' K V p} h hk => by
    rcases h with h | ⟨b, v, hp, hs, hK⟩
    · exact .inl h
    · exact .inr ⟨b, v, hp, hs.keep (hk.mono (fun j _ h => (hK j).2 h)), hK⟩
  ok := fun {w K V p} h => by
    rcases h with ⟨_, rfl, _⟩ | ⟨b, v, hp, hs, hK⟩
    · exact zero_ok
    · exact hs.ok
  lt := fun {w K V p} h j hj => by
    rcases h with ⟨_, _, h⟩ | ⟨b, v, hp, hs, hK⟩
    · exact absurd hj (h j)
    · rcases (hK j).1 hj with rfl | h
      · exact hs.lt
      · exact (row_block hs.row j h).2
  now := fun w K V p h => by
    rcases h with ⟨rfl, rfl, hn⟩ | ⟨b, v, rfl, hs, hK⟩
    · refine (nowp_nil w).mono ?_
      rintro e w' ⟨rfl, hb⟩
      exact ⟨rfl, svE_nil hn hb⟩
    · refine (nowp_box b V v w hs).mono ?_
      rintro e w' ⟨rfl, hs', hc⟩
      exact ⟨rfl, svE_same hK hs' hc⟩
  settled := fun w K V p h => by
    rcases h with ⟨rfl, rfl, hn⟩ | ⟨b, v, rfl, hs, hK⟩
    · refine (settled_nil w).mono ?_
      rintro e w' ⟨rfl, rfl⟩
      exact ⟨rfl, svE_nil hn (Below.refl _ _)⟩
    · refine (settled_box b V v w hs).mono ?_
      rintro e w' ⟨rfl, rfl⟩
      exact ⟨rfl, svE_same hK hs (Chg.refl _ _)⟩
  promote := fun w K V p a c h => by
    rcases h with ⟨rfl, rfl, hn⟩ | ⟨b, v, rfl, hs, hK⟩
    · refine (promp_nil a c w).mono ?_
      rintro e w' ⟨rfl, rfl⟩
      exact ⟨rfl, svE_nil hn (Below.refl _ _)⟩
    · have hcall : Calls Try.prog 13 #[.pointer (some ⟨b, 0, none⟩), .int .i64 a, .int .i64 c] w fun e w' => e = .returned (.int .i64 (V.promC a c)) ∧ PrE w b (V.prom a c) v w' := by
        by_cases hc : V.promC a c = 0
        · exact promp_ok b V v a c w hs hc
        · exact promp_no b V v a c w hs hc
      refine hcall.mono ?_
      rintro e w' ⟨rfl, v', hs', hch, hv'⟩
      refine ⟨rfl, fun j => j = b ∨ v'.ownBlock = some j, .inr ⟨b, v', rfl, hs', fun j => Iff.rfl⟩, hch.mono (fun j _ h => (hK j).2 h), fun j hj => ?_⟩
      rcases hj with rfl | hj
      · exact .inl ((hK _).2 (.inl rfl))
      · exact (hv' j hj).elim (fun h => .inl ((hK j).2 (.inr h))) .inr
  settle := fun w K V p a c h => by
    rcases h with ⟨rfl, rfl, hn⟩ | ⟨b, v, rfl, hs, hK⟩
    · refine (settlep_nil a c w).mono ?_
      rintro e w' ⟨rfl, rfl⟩
      have h9 := SvT.sett_none (V := ⟨0, [], false⟩) rfl a c
      rw [h9.1, h9.2]
      exact ⟨rfl, svE_nil hn (Below.refl _ _)⟩
    · refine (settlep_box b V v a c w hs).mono ?_
      rintro e w' ⟨rfl, hs', hc⟩
      exact ⟨rfl, svE_same hK hs' hc⟩
  take := fun w K V p a k n ns h hno => by
    rcases h with ⟨rfl, rfl, hn⟩ | ⟨b, v, rfl, hs, hK⟩
    · refine (take_nil a ns w).mono ?_
      rintro e w' ⟨rfl, hb⟩
      have h9 : (⟨0, [], false⟩ : SvT).took a k n = ⟨0, [], false⟩ := by unfold SvT.took; split; exact (SvT.sett_none rfl n a).2; rfl
      rw [h9]
      exact ⟨_, K, rfl, RowAt.nil _ _ _ _, .inl ⟨rfl, rfl, hn⟩, Chg.of_below hb _, fun j h => .inl h⟩
    · have hcall : Calls Try.prog 17 #[.pointer (some ⟨b, 0, none⟩), .int .i64 a, .agg ns.toArray] w fun e w' => ∃ m, e = .returned m ∧ TkE w w' m (V.tells k) ∧ SrvAt w' b 0 (V.took a k n) v ∧ Chg w w' (fun j => j = b) := by
        by_cases h0 : V.nodes = 0
        · exact take_zero b V v a k n ns w hs h0
        · by_cases h1 : k = 21
          · exact take_ask b V v a k n ns w hs h0 hno h1
          · by_cases h3 : k = 23
            · exact take_set b V v a k n ns w hs h0 hno h3
            · exact take_else b V v a k n ns w hs h0 hno h1 h3
      refine hcall.mono ?_
      rintro e w' ⟨m, rfl, ht, hs', hc⟩
      refine ⟨m, K, rfl, ?_, .inr ⟨b, v, rfl, hs', hK⟩, hc.mono (fun j _ h => (hK j).2 (.inl h)), fun j h => .inl h⟩
      rcases ht with ⟨hl, rfl⟩ | ⟨g, t, hl, rfl, hg, hle⟩
      · rw [hl]; exact RowAt.nil _ _ _ _
      · rw [hl]
        refine ⟨_, 1, rfl, Nat.le_refl _, (fun h => by cases h), .inr ⟨g, 0, rfl, ⟨hle, fun hk => ?_⟩, lt_of_blk hg, fun i x hi => ?_⟩⟩
        · rcases (hK g).1 hk with h9 | h9
          · have := hs.lt; omega
          · have := (row_block hs.row g h9).2; omega
        · match i, hi with
          | 0, hi =>
            obtain rfl : tellCs t = x := by simpa using hi
            rw [Nat.zero_mul, Nat.add_zero]
            exact range_of hg
  all := fun w K V p h => by
    rcases h with ⟨rfl, rfl, hn⟩ | ⟨b, v, rfl, hs, hK⟩
    · refine (all_nil w).mono ?_
      rintro e w' ⟨rfl, rfl⟩
      exact ⟨_, K, rfl, RowAt.nil _ _ _ _, .inl ⟨rfl, rfl, hn⟩, Chg.refl _ _, fun j h => .inl h⟩
    · refine (all_box b V v w hs).mono ?_
      rintro e w' ⟨u, rfl, hr, hs', hc⟩
      refine ⟨u, K, rfl, vws_row hr (fun j hj => ⟨(row_block hr j hj).1, fun hk => ?_⟩), .inr ⟨b, v, rfl, hs', hK⟩, hc.mono (fun j _ h => (hK j).2 (.inl h)), fun j h => .inl h⟩
      have h1 := (row_block hr j hj).1
      rcases (hK j).1 hk with h9 | h9
      · have := hs.lt; omega
      · have := (row_block hs.row j h9).2; omega
  new_ok := fun w n h1 h2 => by
    refine (new_ok w n h1 h2).mono ?_
    rintro e w' ⟨b, v, rfl, hs, hb, hle, hv⟩
    refine ⟨b, fun j => j = b ∨ v.ownBlock = some j, rfl, .inr ⟨b, v, rfl, hs, fun j => Iff.rfl⟩, hb, fun j hj => ?_⟩
    rcases hj with rfl | hj
    · exact hle
    · exact hv j hj
  new_no := fun w n h => by
    refine (new_no w n h).mono ?_
    rintro e w' ⟨rfl, rfl⟩
    exact ⟨rfl, Below.refl _ _⟩
end Go.Proofs.Ytlbhnlpdijhmlaa
