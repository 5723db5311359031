/-
  allUntouched.
-/
import Derived.Test.YtdjibjmhjofedacWTwinsC
import Derived.Test.YtdjibjmhjofedacWUntouched
import Derived.Test.YtdjibjmhjofedacWFinds1
import Derived.Deep.RegionHeld3
namespace Go.Proofs.Ytdjibjmhjofedac
open Go.RowKit

theorem same_len {ts : List Tw} {ps : List Pc} (h : ts.map (fun t => t.2.2) = ps.map (fun p => p.2.2)) : ts.length = ps.length := by
  have := congrArg List.length h
  simpa using this
theorem same_at {ts : List Tw} {ps : List Pc} (h : ts.map (fun t => t.2.2) = ps.map (fun p => p.2.2)) {k : Nat} {t : Tw} {p : Pc} (ht : ts[k]? = some t) (hp : ps[k]? = some p) : t.2.2 = p.2.2 := by
  have := congrArg (fun l => l[k]?) h
  simp only [List.getElem?_map, ht, hp, Option.map_some] at this
  exact Option.some.inj this
theorem body_same {ts : List Tw} {ps : List Pc} (h : ts.map (fun t => t.2.2) = ps.map (fun p => p.2.2)) : bodyOf (ts.map Tw.pc) = bodyOf ps := by
  unfold bodyOf
  rw [List.map_map, ← h]
  rfl
theorem len_le {ps : List Pc} {p : Pc} (h : p ∈ ps) : p.2.2.length ≤ (bodyOf ps).length := by
  unfold bodyOf
  obtain ⟨l, r, rfl⟩ := List.append_of_mem h
  simp only [List.map_append, List.map_cons, List.flatten_append, List.flatten_cons, List.length_append]
  omega

set_option maxHeartbeats 3200000 in
set_option maxRecDepth 100000 in
theorem allUn_any (al ap : Option Addr) (cl cp base : Nat) (ts : List Tw) (ps : List Pc) (w : World) (hl : Pcs w al (ts.map Tw.pc)) (hp : Pcs w ap ps) (hT : Tws w base ts) (hE : ts.map (fun t => t.2.2) = ps.map (fun p => p.2.2)) (hk : ps.length ≤ 24) (hm : (bodyOf ps).length ≤ 20000) :
    Calls Try.prog 24 #[.slice al ts.length cl, .slice ap ps.length cp] w fun e w' => e = .returned (.bool true) ∧ Below w.heap.size w w' := by
  have hlen := same_len hE
  rcases hp.1 with rfl | ⟨b2, o2, rfl, hlt2, hc2⟩
  · clear hl hp hT hE hlen
    go_enter Try.func24, Try.ntmps24
    go_wp2
    refine wp_loop_rounds 1 ?_
    rw [rounds_succ]
    go_wp2
    go_ret
    exact ⟨rfl, Below.refl _ _⟩
  · rcases hl.1 with h | ⟨b1, o1, rfl, hlt1, hc1⟩
    · have : ps = [] := by
        have h0 : ts.length = 0 := by have := congrArg List.length h; simpa using this
        exact List.eq_nil_of_length_eq_zero (by omega)
      subst this
      clear hl hp hT hE hlen hc2 hlt2
      go_enter Try.func24, Try.ntmps24
      go_wp2
      refine wp_loop_rounds 1 ?_
      rw [rounds_succ]
      go_wp2
      go_ret
      exact ⟨rfl, Below.refl _ _⟩
    · have HC1 : Hid _ := hc1
      have HC2 : Hid _ := hc2
      have HL1 : Hid _ := hlt1
      have HL2 : Hid _ := hlt2
      have HPs : Hid _ := hp
      have HT : Hid _ := hT
      have HE : Hid _ := hE
      have HM : Hid _ := hm
      have HLen : Hid _ := hlen
      clear hl hp hT hE hlen hc1 hc2 hlt1 hlt2 hm
      go_enter Try.func24, Try.ntmps24
      go_wp2
      go_loopw [5] (fun i wr => ∃ k : Nat, i = .int .i64 k ∧ k ≤ ps.length ∧ Hid (Below w.heap.size w wr)) (fun i _ => ps.length - (intOf i).toNat)
      case atStart => exact ⟨0, rfl, by omega, Below.refl _ _⟩
      case round =>
        obtain ⟨k, rfl, hkk, HB⟩ := hrel
        by_cases hlt : k < ps.length
        · obtain ⟨p, hp⟩ : ∃ p, ps[k]? = some p := ⟨ps[k], List.getElem?_eq_getElem hlt⟩
          obtain ⟨t, ht⟩ : ∃ t, ts[k]? = some t := ⟨ts[k]'(by have := HLen.out; omega), List.getElem?_eq_getElem _⟩
          have hcp : wr.cell? ⟨b2, o2 + k, none⟩ = some p.val := by rw [HB.out.cell (p := ⟨b2, o2 + k, none⟩) HL2.out]; exact HC2.out k p hp
          have hct : wr.cell? ⟨b1, o1 + k, none⟩ = some t.val := by rw [HB.out.cell (p := ⟨b1, o1 + k, none⟩) HL1.out]; exact HC1.out k t.pc (by rw [List.getElem?_map, ht]; rfl)
          have hx := same_at HE.out ht hp
          have hroom := (HT.out.room t (List.mem_of_getElem? ht)).below HB.out
          have hok := (HPs.out.2 p (List.mem_of_getElem? hp)).below HB.out
          have hle := Nat.le_trans (len_le (List.mem_of_getElem? hp)) HM.out
          obtain ⟨a1, c1, zs⟩ := p
          obtain ⟨g, cap, ys⟩ := t
          simp only at hx
          subst hx
          rw [Pc.val_eq] at hcp
          unfold Tw.val at hct
          simp only at hct hle hroom
          have HU : Hid _ := fun w' (hb : Below wr.heap.size wr w') => untouched_any base g cap ys a1 c1 w' (Room.below hroom hb) (hok.1.below hb) (by omega)
          have hki : (k : Int) < (ts.length : Int) := by have := HLen.out; omega
          clear hp ht hroom hok
          go_wp2_with fail
          go_region_held3 (fun w' => w'.cell? ⟨b1, o1 + k, none⟩ = some (.slice (some ⟨g, 0, none⟩) ys.length cap) ∧ w'.cell? ⟨b2, o2 + k, none⟩ = some (.slice a1 ys.length c1)) (first | go_keep | exact ⟨by assumption, by assumption⟩)
            (first | (go_at_call 39; refine (HU.out _ (Below.refl _ _).drew).mono ?_; rintro e w1 ⟨rfl, hb1⟩; have HB1 : Hid (Below wr.heap.size wr w1) := below_undrew hb1; have e1 := HB1.out.cell (p := ⟨b1, o1 + k, none⟩) (World.block_lt_of_cell? _ _ hct); have e2 := HB1.out.cell (p := ⟨b2, o2 + k, none⟩) (World.block_lt_of_cell? _ _ hcp); rw [hct] at e1; rw [hcp] at e2; clear hb1))
          have HB2 : Hid (Below w.heap.size w w1) := trans2 HB.out HB1.out
          clear e1 e2
          go_wp2
          exact ⟨⟨k + 1, by go_num, by omega, HB2.out⟩, by simp [intOf]; omega⟩
        · obtain rfl : k = ps.length := by omega
          go_wp2
          go_ret
          exact ⟨rfl, HB.out⟩
end Go.Proofs.Ytdjibjmhjofedac
