/-
  twins, allUntouched.
-/
import Derived.Test.YtdjibjmhjofedacWPieces
import Derived.Test.YtdjibjmhjofedacWRoomy
namespace Go.Proofs.Ytdjibjmhjofedac
open Go.RowKit

theorem Try.info26 : (Try.prog.info? 26).map (fun i => (i.zero, i.size, i.bytes)) = some (some (.slice none 0 0), 1, 24) := by kernel_rfl

/-- A twin: its block, its capacity, its bytes. -/
abbrev Tw := Nat × Nat × List Int
def Tw.val (t : Tw) : Value := .slice (some ⟨t.1, 0, none⟩) t.2.2.length t.2.1
def Tw.pc (t : Tw) : Pc := (some ⟨t.1, 0, none⟩, t.2.1, t.2.2)
theorem Tw.pc_val (t : Tw) : t.pc.val = t.val := rfl
/-- Twins that stand, each in a block of its own. -/
structure Tws (w : World) (base : Nat) (ts : List Tw) : Prop where
  room : ∀ t ∈ ts, Room w base t.1 t.2.1 t.2.2
  byt : ∀ t ∈ ts, Byt t.2.2
  nodup : (ts.map fun t => t.1).Nodup
theorem Tws.nil (w : World) (base : Nat) : Tws w base [] := ⟨fun _ h => (by cases h), fun _ h => (by cases h), List.nodup_nil⟩
theorem Tws.below {w w' : World} {base : Nat} {ts : List Tw} (h : Tws w base ts) (hb : Below w.heap.size w w') : Tws w' base ts := ⟨fun t ht => (h.room t ht).below hb, h.byt, h.nodup⟩
theorem room_kind {w : World} {base g cap : Nat} {xs : List Int} (h : Room w base g cap xs) : ∃ cur, w.heap[g]? = some (.cells cur 5 (0, 0)) := by
  rcases h.2 with ⟨h', _⟩ | ⟨g', cap', cur, h', _, hb, _⟩
  · cases h'
  · simp only [Value.slice.injEq, Option.some.injEq, Addr.mk.injEq, and_true, true_and] at h'
    obtain ⟨rfl, rfl⟩ := h'
    exact ⟨cur, hb⟩
theorem row_kind {w : World} {base e n k : Nat} {v : Value} {xs : List Value} (h : w.ownsRow base e 1 v n xs) (hk : v.ownBlock = some k) : ∃ cur, w.heap[k]? = some (.cells cur e (0, 0)) := by
  rcases h.2 with ⟨rfl, _⟩ | ⟨g, cap, cur, rfl, _, hb, _⟩
  · cases hk
  · cases hk
    exact ⟨cur, hb⟩
/-- A row of lists is no room. -/
theorem room_ne {w : World} {base base' n g cap : Nat} {v : Value} {vs : List Value} {xs : List Int} (h : w.ownsRow base' 26 1 v n vs) (hr : Room w base g cap xs) : v.ownBlock ≠ some g := by
  intro hk
  obtain ⟨c1, h1⟩ := row_kind h hk
  obtain ⟨c2, h2⟩ := room_kind hr
  rw [h1] at h2
  have := Option.some.inj h2
  simp at this
theorem Tws.kept {w w' : World} {base : Nat} {ts : List Tw} {r : Option Nat} (h : Tws w base ts) (hg : w.grownBy w' r) (hne : ∀ t ∈ ts, r ≠ some t.1) : Tws w' base ts :=
  ⟨fun t ht => owns_same (h.room t ht) fun k hk => by cases hk; exact hg.block _ (h.room t ht).lt.2 (fun e => hne t ht e.symm), h.byt, h.nodup⟩
theorem Tws.snoc {w : World} {base : Nat} {ts : List Tw} (h : Tws w base ts) {t : Tw} (hr : Room w base t.1 t.2.1 t.2.2) (hb : Byt t.2.2) (hn : t.1 ∉ ts.map fun t => t.1) : Tws w base (ts ++ [t]) := by
  refine ⟨fun s hs => ?_, fun s hs => ?_, ?_⟩
  · rcases List.mem_append.1 hs with g | g
    · exact h.room s g
    · rw [List.mem_singleton] at g; subst g; exact hr
  · rcases List.mem_append.1 hs with g | g
    · exact h.byt s g
    · rw [List.mem_singleton] at g; subst g; exact hb
  · rw [List.map_append, List.nodup_append]
    refine ⟨h.nodup, by simp, fun a ha b hb' => ?_⟩
    simp only [List.map_cons, List.map_nil, List.mem_singleton] at hb'
    subst hb'
    exact fun e => hn (e ▸ ha)

/-- A row of lists, as pieces. -/
theorem pcs_of_row {w : World} {base : Nat} {v : Value} {ps : List Pc} (h : w.ownsRow base 26 1 v ps.length (ps.map Pc.val)) (hk : ∀ p ∈ ps, p.ok w) : ∃ a c, v = .slice a ps.length c ∧ Pcs w a ps := by
  rcases h.2 with ⟨rfl, h0⟩ | ⟨g, cap, cur, rfl, hg, hb, hn, hc, hs, ht⟩
  · have : ps = [] := List.eq_nil_of_length_eq_zero h0
    subst this
    exact ⟨none, 0, rfl, .inl rfl, hk⟩
  · refine ⟨some ⟨g, 0, none⟩, cap, rfl, .inr ⟨g, 0, rfl, lt_of_blk hb, fun j p hp => ?_⟩, hk⟩
    have hj : j < ps.length := (List.getElem?_eq_some_iff.1 hp).1
    rw [Nat.zero_add, h.cellAt j (by omega), List.getElem?_map, hp]
    rfl
theorem Tws.pcs {w : World} {base base' : Nat} {v : Value} {ts : List Tw} (h : Tws w base ts) (hv : w.ownsRow base' 26 1 v ts.length (ts.map Tw.val)) : ∃ a c, v = .slice a ts.length c ∧ Pcs w a (ts.map Tw.pc) := by
  have e : ts.map Tw.val = (ts.map Tw.pc).map Pc.val := by rw [List.map_map]; rfl
  rw [e] at hv
  have := pcs_of_row (ps := ts.map Tw.pc) (by rw [List.length_map]; exact hv) (fun p hp => by
    obtain ⟨t, ht, rfl⟩ := List.mem_map.1 hp
    exact ⟨(h.room t ht).bys, h.byt t ht, fun h => by cases h⟩)
  rw [List.length_map] at this
  exact this

set_option maxHeartbeats 3200000 in
set_option maxRecDepth 100000 in
theorem twins_any (a : Option Addr) (c : Nat) (ps : List Pc) (w : World) (h : Pcs w a ps) (hk : ps.length ≤ 24) (hm : (bodyOf ps).length ≤ 20000) :
    Calls Try.prog 20 #[.slice a ps.length c] w fun e w' => ∃ v ts, e = .returned v ∧ w'.ownsRow w.heap.size 26 1 v ts.length (ts.map Tw.val) ∧ Tws w' w.heap.size ts ∧ ts.map (fun t => t.2.2) = ps.map (fun p => p.2.2) ∧ Below w.heap.size w w' := by
  obtain ⟨i0, hi, hz0, hz1, hz2⟩ := info_parts Try.info26
  rcases h.1 with rfl | ⟨b, o, rfl, hlt, hc⟩
  · go_enter Try.func20, Try.ntmps20
    go_wp2
    refine wp_loop_rounds 1 ?_
    rw [rounds_succ]
    go_wp2
    go_ret
    exact ⟨_, [], rfl, World.ownsRow_nil _ _ _ _, Tws.nil _ _, rfl, Below.refl _ _⟩
  · have HP : Hid _ := h
    have HC : Hid _ := hc
    have HLT : Hid _ := hlt
    have HM : Hid _ := hm
    clear h hc hlt hm
    go_enter Try.func20, Try.ntmps20
    go_wp2
    go_loopw [3, 4] (fun u i wr => ∃ (k : Nat) (ts : List Tw), i = .int .i64 k ∧ k ≤ ps.length ∧ ts.length ≤ k ∧ Hid (wr.ownsRow w.heap.size 26 1 u ts.length (ts.map Tw.val)) ∧ Hid (Tws wr w.heap.size ts) ∧ Hid (ts.map (fun t => t.2.2) = (ps.take k).map (fun p => p.2.2)) ∧ Hid (Below w.heap.size w wr)) (fun _ i _ => ps.length - (intOf i).toNat)
    case atStart => exact ⟨0, [], rfl, by omega, by simp, World.ownsRow_nil _ _ _ _, Tws.nil _ _, rfl, Below.refl _ _⟩
    case round =>
      obtain ⟨k, ts, rfl, hkk, htk, HO, HTs, HE, HB⟩ := hrel
      by_cases hlt : k < ps.length
      · obtain ⟨p, hp⟩ : ∃ p, ps[k]? = some p := ⟨ps[k], List.getElem?_eq_getElem hlt⟩
        have hc : wr.cell? ⟨b, o + k, none⟩ = some p.val := by rw [HB.out.cell (p := ⟨b, o + k, none⟩) HLT.out]; exact HC.out k p hp
        have hst : (ps.take (k + 1)).map (fun p => p.2.2) = (ps.take k).map (fun p => p.2.2) ++ [p.2.2] := by rw [List.take_add_one, hp]; simp
        have hle := Nat.le_trans (body_le ps (k + 1)) HM.out
        rw [body_step hp, List.length_append] at hle
        have hok := (HP.out.2 p (List.mem_of_getElem? hp)).below HB.out
        obtain ⟨a1, c1, zs⟩ := p
        rw [Pc.val_eq] at hc
        simp only at hst hle
        have HST : Hid _ := hst
        have HK : Hid _ := hok
        have hzl : zs.length ≤ 20000 := by omega
        clear hp hst hok hle
        go_wp2_with fail
        refine (roomy_any a1 c1 zs wr HK.out.1 HK.out.2.2 (by omega)).mono ?_
        rintro e w1 ⟨g, cap, rfl, hr1, hb1⟩
        have hrb : Room w1 w.heap.size g cap zs := by
          refine ⟨hr1.1, hr1.2.imp id ?_⟩
          rintro ⟨g', cap', cur, h1, h2, r⟩
          exact ⟨g', cap', cur, h1, Nat.le_trans HB.out.size h2, r⟩
        have hgn : g ∉ ts.map fun t => t.1 := by
          intro hg
          obtain ⟨t, ht, rfl⟩ := List.mem_map.1 hg
          have h1 := (HTs.out.room t ht).lt.2
          have h2 := hr1.lt.1
          omega
        have HT1 : Hid (Tws w1 w.heap.size (ts ++ [(g, cap, zs)])) := Tws.snoc (Tws.below HTs.out hb1) hrb HK.out.2.1 hgn
        have HO1 : Hid _ := owns_below HO.out hb1
        have HB1 : Hid (Below w.heap.size w w1) := HB.out.trans (hb1.mono HB.out.size)
        clear hr1 hb1 hrb hgn
        go_wp2_with (first | (at_builtin; refine wpList_append_own _ rfl _ _ 22 rfl w.heap.size 26 i0 (.slice none 0 0) 1 24 Try.underlying22 hi hz0 hz1 hz2 rfl (by decide) _ ts.length (ts.map Tw.val) rfl (World.ownsRow.alloc HO1.out _) ⟨w1.heap.size, 0, none⟩ 1 1 [.slice (some ⟨g, 0, none⟩) zs.length cap] rfl rfl (cell_one_new _ _ _) (fun x hx => by simp at hx; subst hx; rfl) (by unfold maxLen; omega) (by omega) (by have := HB1.out.size; simp; omega) ?_) | fail)
        intro v' w2 ho hg _
        have ho2 : w2.ownsRow w.heap.size 26 1 v' (ts ++ [(g, cap, zs)]).length ((ts ++ [(g, cap, zs)]).map Tw.val) := by
          rw [List.length_append, List.map_append]
          exact ho
        have HO2 : Hid _ := ho2
        have HB2 : Hid (Below w.heap.size w w2) := (HB1.out.alloc HB1.out.size _).grown hg (by have := HB1.out.size; simp; omega) (fun j hj => (World.ownsRow.lt HO1.out j hj).1)
        have HT2 : Hid (Tws w2 w.heap.size (ts ++ [(g, cap, zs)])) := by
          refine Tws.kept (Tws.below HT1.out ((Below.refl _ _).alloc (Nat.le_refl _) _)) hg (fun t ht => ?_)
          exact room_ne HO1.out (HT1.out.room t ht)
        have HE2 : Hid ((ts ++ [(g, cap, zs)]).map (fun t => t.2.2) = (ps.take (k + 1)).map (fun p => p.2.2)) := by
          show _ = _
          rw [HST.out, List.map_append, HE.out]
          rfl
        clear ho ho2 hg HO1 HT1 HB1
        go_wp2
        exact ⟨⟨k + 1, ts ++ [(g, cap, zs)], by go_num, by omega, by simp; omega, HO2.out, HT2.out, HE2.out, HB2.out⟩, by simp [intOf]; omega⟩
      · obtain rfl : k = ps.length := by omega
        rw [List.take_length] at HE
        go_wp2
        go_ret
        exact ⟨_, ts, rfl, HO.out, HTs.out, HE.out, HB.out⟩
end Go.Proofs.Ytdjibjmhjofedac
