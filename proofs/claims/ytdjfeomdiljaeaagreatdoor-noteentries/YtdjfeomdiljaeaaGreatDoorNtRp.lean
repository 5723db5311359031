/-
  note: the reader.
-/
import Derived.Test.YtdjfeomdiljaeaaGreatDoorNtRd
import Derived.Deep.RegionHeld2
namespace Go.Proofs.YtdjfeomdiljaeaaGreatDoor
open Go.RowKit
set_option linter.unusedVariables false
set_option linter.unusedSimpArgs false

theorem Bys.chg {w w' : World} {a : Option Addr} {zs : List Int} {S : Nat → Prop} (h : Bys w a zs) (hc : Chg w w' S) (hS : zs ≠ [] → ∀ b o, a = some ⟨b, o, none⟩ → ¬ S b) : Bys w' a zs := by
  rcases h with h | ⟨b, o, ha, hlt, hs⟩
  · exact .inl h
  · by_cases hz : zs = []
    · exact .inl hz
    · refine .inr ⟨b, o, ha, Nat.lt_of_lt_of_le hlt hc.size, fun j x hx => ?_⟩
      rw [show w'.cell? ⟨b, o + j, none⟩ = w.cell? ⟨b, o + j, none⟩ by unfold World.cell?; rw [hc.block b hlt (hS hz b o ha)]]
      exact hs j x hx
theorem Chg.low {w w1 w2 : World} {S : Nat → Prop} {B : Nat} (h : Chg w w1 S) (hb : Below B w1 w2) (hB : w.heap.size ≤ B) : Chg w w2 S :=
  ⟨hb.os.trans h.os, hb.tape.trans h.tape, hb.output.trans h.output, Nat.le_trans h.size hb.size, fun k hk hn => by rw [hb.block k (Nat.lt_of_lt_of_le hk hB)]; exact h.block k hk hn⟩
/-- What a reader reads, once for all. -/
structure RdC (w0 : World) (br : Nat) (a : Option Addr) (c : Nat) (xs : List Int) : Prop where
  bys : Bys w0 a xs
  byt : Byt xs
  len : xs.length ≤ 1000000
  cap : xs.length ≤ c
  cm : c ≤ maxLen
  ne : xs ≠ [] → ∀ b o, a = some ⟨b, o, none⟩ → b ≠ br
  lt : br < w0.heap.size
/-- A reader that stands at p. -/
structure RdS (t : TypeId) (w0 w : World) (br : Nat) (a : Option Addr) (c : Nat) (xs : List Int) (p : Nat) : Prop where
  box : w.heap[br]? = some (.cells #[.slice a xs.length c, .int .i64 p] t (0, 0))
  chg : Chg w0 w (fun j => j = br)
  le : p ≤ xs.length
theorem RdS.bys {t : TypeId} {w0 w : World} {br : Nat} {a : Option Addr} {c : Nat} {xs : List Int} {p : Nat} (h : RdS t w0 w br a c xs p) (hc : RdC w0 br a c xs) : Bys w a xs := hc.bys.chg h.chg (fun hz b o hb => hc.ne hz b o hb)
theorem RdS.low {t : TypeId} {w0 w w' : World} {br : Nat} {a : Option Addr} {c : Nat} {xs : List Int} {p B : Nat} (h : RdS t w0 w br a c xs p) (hb : Below B w w') (hB : w0.heap.size ≤ B) (hlt : br < w0.heap.size) : RdS t w0 w' br a c xs p :=
  ⟨by rw [hb.block br (by omega)]; exact h.box, h.chg.low hb hB, h.le⟩
theorem RdS.ext {t : TypeId} {w0 w w' : World} {br : Nat} {a : Option Addr} {c : Nat} {xs : List Int} {p : Nat} (h : RdS t w0 w br a c xs p) (hb : Below w.heap.size w w') : RdS t w0 w' br a c xs p :=
  ⟨kept_block hb h.box, h.chg.trans (Chg.of_below hb _), h.le⟩
/-- How a reading ends: it has x, whose bytes stand at p; or it gives up, and no x stands there. -/
def RdE {A : Type} (w0 : World) (br : Nat) (a : Option Addr) (c : Nat) (xs : List Int) (p : Nat) (enc : A → List Int) (good : A → Prop) (val : A → Value) (P : A → World → Prop) (w : World) (e : Ending) (w' : World) : Prop :=
  (∃ x q, e = .returned (val x) ∧ good x ∧ Sd xs p (enc x) q ∧ RdS 78 w0 w' br a c xs q ∧ Chg w w' (fun j => j = br) ∧ P x w') ∨ (e = .panicked PN ∧ (∀ x r, good x → xs.drop p ≠ enc x ++ r) ∧ Chg w w' (fun j => j = br))
abbrev noP {A : Type} : A → World → Prop := fun _ _ => True
abbrev sz262 (s : ByteArray) : Prop := s.size ≤ 262144
theorem Chg.drewN {w w' : World} {S : Nat → Prop} (h : Chg w w' S) : Chg w w'.drew S := ⟨h.os, h.tape, h.output, h.size, h.block⟩
set_option maxHeartbeats 1600000 in
theorem rd_number (w0 : World) (br : Nat) (a : Option Addr) (c : Nat) (xs : List Int) (p : Nat) (w : World) (hc : RdC w0 br a c xs) (h : RdS 78 w0 w br a c xs p) :
    Calls Tryz.prog 64 #[.pointer (some ⟨br, 0, none⟩)] w (RdE w0 br a c xs p nmL inN intV noP w) := by
  have HS : Hid (RdS 78 w0 w br a c xs p) := h
  have HX : Hid (Bys w a xs) := h.bys hc
  obtain ⟨c0, c1⟩ := cells_2 h.box
  have f2 := free_2 h.box
  rcases rd_say hc.byt p h.le with ⟨v, q, he, hg, hsd⟩ | ⟨he, hno⟩
  · have HR : Hid (∀ w', Below w.heap.size w w' → Calls Tryz.prog 104 #[.slice a xs.length c, .int .i64 p] w' fun e w'' => e = .returned (.tuple #[.int .i64 v, .int .i64 q, .int .i64 0]) ∧ w'' = w') := fun w' hb' => by
      have := readNumber_any a c xs p w' (HX.out.below hb') hc.byt hc.len
      rw [he] at this
      exact this
    have HG : Hid (inN v) := hg
    have HSD : Hid (Sd xs p (nmL v) q) := hsd
    clear h hc hg hsd he
    go_enter Tryz.func64, Tryz.ntmps64
    go_wp2_with fail
    go_region_held3 (fun w' => w'.cell? ⟨br, 0, none⟩ = some (.slice a xs.length c) ∧ w'.cell? ⟨br, 1, none⟩ = some (.int .i64 p)) (first | exact ⟨c0, c1⟩ | go_keep)
      (first
      | (go_at_call 104; refine (HR.out _ (below_drew (Below.refl _ _))).mono ?_; rintro e w1 ⟨rfl, rfl⟩)
      | fail)
    go_wp2_with fail
    refine (must_ck _ _).mono ?_
    rintro e w2 ⟨⟨rfl, _⟩ | ⟨rfl, hh⟩, rfl⟩
    rotate_left
    · exact absurd rfl hh
    go_wp2_with fail
    go_ret
    have hch : Chg w ((World.drew w).setCell ⟨br, 1, none⟩ (.int .i64 q)) (fun j => j = br) := (Chg.drewN (Chg.refl _ _)).trans (Chg.set _ _ _)
    exact .inl ⟨v, q, rfl, HG.out, HSD.out, ⟨same_blk (w := World.drew w) HS.out.box rfl, HS.out.chg.trans hch, HSD.out.2.2⟩, hch, trivial⟩
  · obtain ⟨v, nx, cd, hq⟩ : ∃ v nx cd, rdAny p xs = (v, nx, cd) := ⟨_, _, _, rfl⟩
    rw [hq] at he
    have hcd : (cd == 0) = false := by simpa using he
    have HR : Hid (∀ w', Below w.heap.size w w' → Calls Tryz.prog 104 #[.slice a xs.length c, .int .i64 p] w' fun e w'' => e = .returned (.tuple #[.int .i64 v, .int .i64 nx, .int .i64 cd]) ∧ w'' = w') := fun w' hb' => by
      have := readNumber_any a c xs p w' (HX.out.below hb') hc.byt hc.len
      rw [hq] at this
      exact this
    have HNO : Hid (∀ x r, inN x → xs.drop p ≠ nmL x ++ r) := hno
    clear h hc he hno hq
    go_enter Tryz.func64, Tryz.ntmps64
    go_wp2_with fail
    go_region_held3 (fun w' => w'.cell? ⟨br, 0, none⟩ = some (.slice a xs.length c) ∧ w'.cell? ⟨br, 1, none⟩ = some (.int .i64 p)) (first | exact ⟨c0, c1⟩ | go_keep)
      (first
      | (go_at_call 104; refine (HR.out _ (below_drew (Below.refl _ _))).mono ?_; rintro e w1 ⟨rfl, rfl⟩)
      | fail)
    go_wp2_with fail
    refine (must_ck _ _).mono ?_
    rintro e w2 ⟨⟨rfl, hh⟩ | ⟨rfl, _⟩, rfl⟩
    · cases hh
    exact ⟨rfl, .inr ⟨rfl, HNO.out, Chg.drewN (Chg.refl _ _)⟩⟩
set_option maxHeartbeats 1600000 in
theorem rd_text (w0 : World) (br : Nat) (a : Option Addr) (c : Nat) (xs : List Int) (p : Nat) (w : World) (hc : RdC w0 br a c xs) (h : RdS 78 w0 w br a c xs p) :
    Calls Tryz.prog 109 #[.pointer (some ⟨br, 0, none⟩)] w (RdE w0 br a c xs p textL sz262 strV noP w) := by
  have HS : Hid (RdS 78 w0 w br a c xs p) := h
  have HX : Hid (Bys w a xs) := h.bys hc
  obtain ⟨c0, c1⟩ := cells_2 h.box
  have f2 := free_2 h.box
  rcases rt_say hc.byt p h.le with ⟨v, q, he, hg, hsd⟩ | ⟨he, hno⟩
  · have HR : Hid (∀ w', Below w.heap.size w w' → Calls Tryz.prog 168 #[.slice a xs.length c, .int .i64 p] w' fun e w'' => e = .returned (.tuple #[.string v, .int .i64 q, .int .i64 0]) ∧ w'' = w') := fun w' hb' => by
      have := readText_any a c xs p w' (HX.out.below hb') hc.byt hc.len hc.cap hc.cm
      rw [he] at this
      exact this
    have HG : Hid (sz262 v) := hg
    have HSD : Hid (Sd xs p (textL v) q) := hsd
    clear h hc hg hsd he
    go_enter Tryz.func109, Tryz.ntmps109
    go_wp2_with fail
    go_region_held3 (fun w' => w'.cell? ⟨br, 0, none⟩ = some (.slice a xs.length c) ∧ w'.cell? ⟨br, 1, none⟩ = some (.int .i64 p)) (first | exact ⟨c0, c1⟩ | go_keep)
      (first
      | (go_at_call 168; refine (HR.out _ (below_drew (Below.refl _ _))).mono ?_; rintro e w1 ⟨rfl, rfl⟩)
      | fail)
    go_wp2_with fail
    refine (must_ck _ _).mono ?_
    rintro e w2 ⟨⟨rfl, _⟩ | ⟨rfl, hh⟩, rfl⟩
    rotate_left
    · exact absurd rfl hh
    go_wp2_with fail
    go_ret
    have hch : Chg w ((World.drew w).setCell ⟨br, 1, none⟩ (.int .i64 q)) (fun j => j = br) := (Chg.drewN (Chg.refl _ _)).trans (Chg.set _ _ _)
    exact .inl ⟨v, q, rfl, HG.out, HSD.out, ⟨same_blk (w := World.drew w) HS.out.box rfl, HS.out.chg.trans hch, HSD.out.2.2⟩, hch, trivial⟩
  · obtain ⟨v, nx, cd, hq⟩ : ∃ v nx cd, rtAny p xs = (v, nx, cd) := ⟨_, _, _, rfl⟩
    rw [hq] at he
    have hcd : (cd == 0) = false := by simpa using he
    have HR : Hid (∀ w', Below w.heap.size w w' → Calls Tryz.prog 168 #[.slice a xs.length c, .int .i64 p] w' fun e w'' => e = .returned (.tuple #[.string v, .int .i64 nx, .int .i64 cd]) ∧ w'' = w') := fun w' hb' => by
      have := readText_any a c xs p w' (HX.out.below hb') hc.byt hc.len hc.cap hc.cm
      rw [hq] at this
      exact this
    have HNO : Hid (∀ x r, sz262 x → xs.drop p ≠ textL x ++ r) := hno
    clear h hc he hno hq
    go_enter Tryz.func109, Tryz.ntmps109
    go_wp2_with fail
    go_region_held3 (fun w' => w'.cell? ⟨br, 0, none⟩ = some (.slice a xs.length c) ∧ w'.cell? ⟨br, 1, none⟩ = some (.int .i64 p)) (first | exact ⟨c0, c1⟩ | go_keep)
      (first
      | (go_at_call 168; refine (HR.out _ (below_drew (Below.refl _ _))).mono ?_; rintro e w1 ⟨rfl, rfl⟩)
      | fail)
    go_wp2_with fail
    refine (must_ck _ _).mono ?_
    rintro e w2 ⟨⟨rfl, hh⟩ | ⟨rfl, _⟩, rfl⟩
    · cases hh
    exact ⟨rfl, .inr ⟨rfl, HNO.out, Chg.drewN (Chg.refl _ _)⟩⟩
theorem rd_end (w0 : World) (br : Nat) (a : Option Addr) (c : Nat) (xs : List Int) (p : Nat) (w : World) (h : RdS 78 w0 w br a c xs p) :
    Calls Tryz.prog 33 #[.pointer (some ⟨br, 0, none⟩)] w fun e w' => (e = .returned (.tuple #[]) ∧ p = xs.length ∨ e = .panicked PN ∧ p ≠ xs.length) ∧ Chg w w' (fun j => j = br) := by
  obtain ⟨c0, c1⟩ := cells_2 h.box
  by_cases hp : p = xs.length
  · have hp' : ((p : Int) == (xs.length : Int)) = true := by rw [hp]; simp
    clear h
    go_enter Tryz.func33, Tryz.ntmps33
    go_region_held3 (fun w' => w'.cell? ⟨br, 0, none⟩ = some (.slice a xs.length c) ∧ w'.cell? ⟨br, 1, none⟩ = some (.int .i64 p)) (first | exact ⟨c0, c1⟩ | go_keep)
      (first
      | (go_at_call 70; refine (must_ck _ _).mono ?_; rintro e w1 ⟨⟨rfl, _⟩ | ⟨rfl, hh⟩, rfl⟩; rotate_left; exact absurd rfl hh)
      | fail)
    go_wp2_with fail
    exact bodyPost_end (results_none rfl _ _ _) rfl ⟨.inl ⟨rfl, hp⟩, Chg.drewN (Chg.refl _ _)⟩
  · have hp' : ((p : Int) == (xs.length : Int)) = false := by simp; omega
    clear h
    go_enter Tryz.func33, Tryz.ntmps33
    go_region_held2 (fun w' => w'.cell? ⟨br, 0, none⟩ = some (.slice a xs.length c) ∧ w'.cell? ⟨br, 1, none⟩ = some (.int .i64 p)) (first | exact ⟨c0, c1⟩ | go_keep)
      (first
      | (go_at_call 70; refine Calls.mono (must_ck false _) ?_; rintro e wm ⟨⟨rfl, hm⟩ | ⟨rfl, hm⟩, rfl⟩
         rotate_left
         · first | exact ⟨rfl, rfl, Chg.drewN (Chg.refl _ _)⟩ | exact ⟨rfl, .inr ⟨rfl, hp⟩, Chg.drewN (Chg.refl _ _)⟩
         have HMF : Hid (false = true) := hm
         clear hm)
      | fail)
    all_goals exact absurd HMF.out (by decide)
def trL (b : Bool) : List Int := nmL (if b then 1 else 0)
theorem tr_pre {a b : Bool} {r s : List Int} (h : trL a ++ r = trL b ++ s) : a = b ∧ r = s := by
  have := nm_pre (a := if a then 1 else 0) (b := if b then 1 else 0) (by cases a <;> decide) (by cases b <;> decide) h
  refine ⟨?_, this.2⟩
  have h1 := this.1
  cases a <;> cases b <;> simp_all
abbrev boolV (b : Bool) : Value := .bool b
set_option maxHeartbeats 1600000 in
theorem rd_truth (w0 : World) (br : Nat) (a : Option Addr) (c : Nat) (xs : List Int) (p : Nat) (w : World) (hc : RdC w0 br a c xs) (h : RdS 78 w0 w br a c xs p) :
    Calls Tryz.prog 169 #[.pointer (some ⟨br, 0, none⟩)] w (RdE w0 br a c xs p trL (fun _ => True) boolV noP w) := by
  have HN : Hid _ := rd_number w0 br a c xs p w hc h
  clear hc h
  go_enter Tryz.func169, Tryz.ntmps169
  go_upto_region 2 with (first
    | (go_at_call 64; refine Calls.mono HN.out ?_
       rintro e w1 (⟨v, q, rfl, hg, hs, hr, hch, _⟩ | ⟨rfl, hno, hch⟩)
       rotate_left
       · exact ⟨rfl, .inr ⟨rfl, fun y r _ hd => hno _ r (by cases y <;> decide) hd, hch⟩⟩
       have HG : Hid (inN v) := hg
       have HS : Hid (Sd xs p (nmL v) q) := hs
       have HR : Hid (RdS 78 w0 w1 br a c xs q) := hr
       have HCH : Hid (Chg w w1 (fun j => j = br)) := hch
       clear hg hs hr hch)
    | fail)
  by_cases h1 : v ≤ 1
  · go_wp2_with fail
    refine (must_ck _ _).mono ?_
    rintro e w2 ⟨⟨rfl, _⟩ | ⟨rfl, hh⟩, rfl⟩
    rotate_left
    · exact absurd rfl hh
    by_cases h2 : v = 1
    · subst h2
      go_wp2_with fail
      go_ret
      exact .inl ⟨true, q, rfl, trivial, HS.out, HR.out, HCH.out, trivial⟩
    · have h3 : v = 0 := by have := HG.out.1; omega
      subst h3
      go_wp2_with fail
      go_ret
      exact .inl ⟨false, q, rfl, trivial, HS.out, HR.out, HCH.out, trivial⟩
  · go_wp2_with fail
    refine (must_ck _ _).mono ?_
    rintro e w2 ⟨⟨rfl, hh⟩ | ⟨rfl, _⟩, rfl⟩
    · cases hh
    refine ⟨rfl, .inr ⟨rfl, fun y r _ hd => ?_, HCH.out⟩⟩
    rw [HS.out.1] at hd
    have := (nm_pre HG.out (by cases y <;> decide) hd).1
    cases y <;> simp at this <;> omega
set_option maxHeartbeats 1600000 in
theorem rd_version (w0 : World) (br : Nat) (a : Option Addr) (c : Nat) (xs : List Int) (p : Nat) (w : World) (hc : RdC w0 br a c xs) (h : RdS 78 w0 w br a c xs p) :
    Calls Tryz.prog 110 #[.pointer (some ⟨br, 0, none⟩)] w (RdE w0 br a c xs p vrL inV intV noP w) := by
  have HT : Hid _ := rd_truth w0 br a c xs p w hc h
  have HC : Hid (RdC w0 br a c xs) := hc
  clear hc h
  go_enter Tryz.func110, Tryz.ntmps110
  go_upto_region 1 with fail
  go_wp2_with (first
    | (go_at_call 169; refine Calls.mono HT.out ?_
       rintro e w1 (⟨b, q, rfl, _, hs, hr, hch, _⟩ | ⟨rfl, hno, hch⟩)
       rotate_left
       · refine ⟨rfl, .inr ⟨rfl, fun y r hy hd => ?_, hch⟩⟩
         unfold vrL at hd
         by_cases hy1 : y = -1
         · rw [if_pos hy1] at hd
           exact hno false _ trivial hd
         · rw [if_neg hy1, List.append_assoc] at hd
           exact hno true _ trivial hd
       have HS : Hid (Sd xs p (trL b) q) := hs
       have HR : Hid (RdS 78 w0 w1 br a c xs q) := hr
       have HCH : Hid (Chg w w1 (fun j => j = br)) := hch
       clear hs hr hch
       cases b)
    | (go_at_call 64; refine Calls.mono (rd_number w0 br a c xs q _ HC.out HR.out) ?_
       rintro e w2 (⟨v, q2, rfl, hg, hs, hr, hch, _⟩ | ⟨rfl, hno, hch⟩)
       rotate_left
       · refine ⟨rfl, .inr ⟨rfl, fun y r hy hd => ?_, HCH.out.trans hch⟩⟩
         unfold vrL at hd
         rw [HS.out.1] at hd
         by_cases hy1 : y = -1
         · rw [if_pos hy1] at hd
           have := (tr_pre (a := true) (b := false) hd).1
           cases this
         · rw [if_neg hy1, List.append_assoc] at hd
           exact hno _ _ (hy.resolve_left hy1) (tr_pre (a := true) (b := true) hd).2
       have HG2 : Hid (inN v) := hg
       have HS2 : Hid (Sd xs q (nmL v) q2) := hs
       have HR2 : Hid (RdS 78 w0 w2 br a c xs q2) := hr
       have HCH2 : Hid (Chg w w2 (fun j => j = br)) := HCH.out.trans hch
       clear hg hs hr hch)
    | fail)
  · go_ret
    exact .inl ⟨-1, q, rfl, .inl rfl, by unfold vrL; rw [if_pos rfl]; exact HS.out, HR.out, HCH.out, trivial⟩
  · go_ret
    refine .inl ⟨v, q2, rfl, .inr HG2.out, ?_, HR2.out, HCH2.out, trivial⟩
    unfold vrL
    rw [if_neg (by have := HG2.out.1; omega)]
    exact HS.out.trans HS2.out
theorem row_setA {w : World} {g : Nat} {old cs : Array Value} {t : TypeId} (h : w.heap[g]? = some (.cells old t (0, 0))) : (w.setRow g cs).heap[g]? = some (.cells cs t (0, 0)) := by
  show (w.heap.modify g _)[g]? = _
  rw [Array.getElem?_modify, if_pos rfl, h]
  rfl
theorem row_chgA {w : World} {g : Nat} {old cs : Array Value} {t : TypeId} (h : w.heap[g]? = some (.cells old t (0, 0))) : Chg w (w.setRow g cs) (fun j => j = g) := by
  refine ⟨rfl, rfl, rfl, by simp [World.setRow], fun j hj hn => ?_⟩
  show (w.heap.modify g _)[j]? = _
  rw [Array.getElem?_modify, if_neg (Ne.symm hn)]
theorem results_cell1 {P : Program} {fn : Func} {p : Tmp} {ty : TypeId} (h : fn.results = #[.cell p ty]) (tmps : Array Value) (w : World) (g : Nat) (t : TypeId) (cs : Array Value) (fr : Nat × Nat) (d : TypeDesc)
    (hp : tmps.getD p undef = .pointer (some ⟨g, 0, none⟩)) (hg : w.heap[g]? = some (.cells cs t fr))
    (hu : P.underlying ty = some d) (hd : (match d with | .struct _ | .array _ _ => true | _ => false) = true) (hi : (P.info? ty).map (·.size) = some cs.size) :
    (results fn tmps).run P w = .ok (.agg cs) w := by
  have hp' : tmps[p]?.getD undef = .pointer (some ⟨g, 0, none⟩) := by simpa using hp
  simp [results, h, hp', asAddr, run_loadVar_row w g t ty cs fr d hg hu hd hi]
theorem RdS.row {t : TypeId} {w0 w : World} {br : Nat} {a : Option Addr} {c : Nat} {xs : List Int} {p B : Nat} (h : RdS t w0 w br a c xs p) {old cs : Array Value} {ty : TypeId} (hB : w.heap[B]? = some (.cells old ty (0, 0))) (hge : w0.heap.size ≤ B) (hlt : br < w0.heap.size) : RdS t w0 (w.setRow B cs) br a c xs p :=
  h.low ((row_chgA hB).below (B := B) (Nat.le_of_lt (lt_of_blk hB)) (fun k _ e => by omega)) hge hlt
end Go.Proofs.YtdjfeomdiljaeaaGreatDoor
