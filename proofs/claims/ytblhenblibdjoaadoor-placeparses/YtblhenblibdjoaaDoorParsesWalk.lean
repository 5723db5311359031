/-
  PlaceParses: the walk.
-/
import Derived.Test.YtblhenblibdjoaaDoorRefParse
import Derived.Test.YtblhenblibdjoaaDoorKnown
namespace Go.Proofs.YtblhenblibdjoaaDoor
open Go.RowKit

set_option maxRecDepth 100000 in
theorem parses_walk (s : ByteArray) (w : World) (hg : Ground w) :
    Calls Tryd.prog 6 #[.string s] w fun e w' => e = .returned (.bool true) ∧ Below w.heap.size w w' := by
  have HG : Hid (Ground w) := hg
  clear hg
  have hlen : (parse s).2.length ≤ 6 := (parse_len (s := s) rfl).1
  obtain ⟨code, xs, hp⟩ : ∃ code xs, parse s = (code, xs) := ⟨_, _, rfl⟩
  have HR : Hid (∀ w, Calls Tryd.prog 18 #[.string s] w fun e w' => ∃ a c, e = .returned (.tuple #[.slice a xs.length c, .int .i64 code]) ∧ Lst w' a xs ∧ Below w.heap.size w w') := fun w => by
    refine (refParse_any s w).mono ?_
    rintro e w' ⟨a, c, h1, h2, _, h3⟩
    rw [hp] at h1 h2
    exact ⟨a, c, h1, h2, h3⟩
  have HP : Hid (∀ w, Ground w → Calls Tryd.prog 9 #[.string s] w fun e w' => ∃ a c, e = .returned (.tuple #[.slice a xs.length c, .int .i64 code]) ∧ Lst w' a xs ∧ Below w.heap.size w w') := fun w hg => by
    refine (parse_any s w hg).mono ?_
    rintro e w' ⟨a, c, h1, h2, h3⟩
    rw [hp] at h1 h2
    exact ⟨a, c, h1, h2.lst, h3⟩
  rw [hp] at hlen
  simp only at hlen
  clear hp
  go_enter Tryd.func6, Tryd.ntmps6
  go_wp2_with fail
  refine (HR.out _).mono ?_
  rintro e w1 ⟨a1, c1, rfl, hl1, hb1⟩
  have HL1 : Hid _ := hl1
  have HB1 : Hid _ := hb1
  clear hl1 hb1
  go_wp2_with fail
  refine (HP.out _ (HG.out.below HB1.out)).mono ?_
  rintro e w2 ⟨a2, c2, rfl, hl2, hb2⟩
  have HL2 : Hid _ := hl2
  have HB2 : Hid _ := hb2
  clear hl2 hb2
  have HT : Hid (∀ c c', Calls Tryd.prog 19 #[.slice a2 xs.length c, .slice a1 xs.length c'] w2 fun e w' => e = .returned (.bool true) ∧ ∃ m, w' = w2.drewN m) :=
    fun c c' => texts_same _ _ c c' xs _ HL2.out (Lst.below HL1.out HB2.out) (by omega)
  have HB : Hid (Below w.heap.size w w2) := HB1.out.trans (HB2.out.mono HB1.out.size)
  go_wp2_with (first
    | (go_at_call 19; refine (HT.out _ _).mono ?_; rintro e w7 ⟨rfl, m, rfl⟩)
    | (go_at_call 17; refine (known_any _ (HG.out.below (below_drewN HB.out _))).mono ?_; rintro e w8 ⟨rfl, hb8⟩; have HB8 : Hid _ := hb8; clear hb8)
    | (go_at_call 11; go_in))
  go_ret
  exact ⟨rfl, (below_drewN HB.out _).trans (HB8.out.mono (below_drewN HB.out _).size)⟩
end Go.Proofs.YtblhenblibdjoaaDoor
