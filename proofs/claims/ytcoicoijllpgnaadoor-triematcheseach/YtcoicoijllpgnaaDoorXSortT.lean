/-
  trie: tags are sorted.
-/
import Derived.Test.YtcoicoijllpgnaaDoorXAlong
import Derived.Test.YtcoicoijllpgnaaDoorShelfG
import Derived.Shelf.SlSortCmp.WholeK
namespace Go.Proofs.YtcoicoijllpgnaaDoor
open Go.RowKit Go.Maps Go.Sort Go.Shelf
set_option linter.unusedVariables false
set_option linter.unusedSimpArgs false

abbrev Tg := Int × Int
def encT (t : Tg) : List Value := [.int .i64 t.1, .int .i64 t.2]
def cfT (a b : Tg) : Int := ctI a.1 a.2 b.1 b.2
def befT (a b : Tg) : Bool := befB a.1 a.2 b.1 b.2
theorem ltT (a b : Tg) : ltOf cfT a b = befT a b := by
  rw [Bool.eq_iff_iff]
  unfold ltOf cfT befT
  rw [← ct_neg]
  simp
theorem bef_cotrans {a b c d e f : Int} (h1 : befB a b c d = false) (h2 : befB c d e f = false) : befB a b e f = false := by
  unfold befB at *
  simp only [Bool.or_eq_false_iff, Bool.and_eq_false_iff, decide_eq_false_iff_not] at *
  omega
theorem swoT : SWO (ltOf cfT) where
  irrefl x := by rw [ltT]; exact bef_irr _ _
  trans x y z h1 h2 := by rw [ltT] at *; exact bef_trans h1 h2
  ntrans x y z h1 h2 := by rw [ltT] at *; exact bef_cotrans h1 h2
theorem cmpT (blk off size : Nat) (w : World) : CmpLays Tryd.prog 17 #[] encT 2 cfT blk off size w := by
  intro m os dk _ x y
  refine (order_tags x.1 x.2 y.1 y.2 _).mono ?_
  rintro e w' ⟨he, n, os', hw⟩
  exact ⟨he, n, os', hw⟩
end Go.Proofs.YtcoicoijllpgnaaDoor
