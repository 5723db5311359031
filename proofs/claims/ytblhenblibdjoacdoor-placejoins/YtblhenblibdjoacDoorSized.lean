/-
  A slice of strings that came in, with the bound of its bytes.
-/
import Derived.Test.YtblhenblibdjoacDoorRowsy
import Derived.SizedLaws
namespace Go.Proofs.YtblhenblibdjoacDoor
open Go.RowKit Go.ChangeShapes Go.WideShapes Go.ChangeAt

theorem bytes9 : Tryd.prog.bytesOf 9 = 16 := by kernel_rfl

theorem strs16_of {H : Type} {enc : TypeId × Value → H} {W : World} {t : TypeId} (ht : Tryd.prog.underlying t = some (.slice 9)) {a : Option Addr} {len cap : Nat} {d : DataW H} {p : List MemPlace}
    (h : DataW.Trod enc Tryd.prog W 0 (fun _ => true) true t (.slice a len cap) d p) (hz : ∀ el sp, d = .slice el sp → (el.length + sp.length) * Tryd.prog.bytesOf 9 ≤ reachBytes) :
    ∃ ns : List ByteArray, len = ns.length ∧ (Lst W a ns ∧ (a = none → cap = 0) ∧ ns.length * 16 ≤ 140737488351232) := by
  obtain ⟨ns, h1, h2, h3, h4⟩ := strs_of ht h
  refine ⟨ns, h1, h2, h3, ?_⟩
  obtain ⟨fuel, hf⟩ := h
  rcases open_strings ht Tryd.underlying9 (by kernel_rfl) hf with ⟨hcs, _⟩ | ⟨x, l, c, ss, hcs, _, hl, hm, hss, hx, _, _⟩
  · simp [Value.cells] at hcs
    omega
  · simp [Value.cells] at hcs
    obtain ⟨_, rfl, rfl⟩ := hcs
    simp only [Prod.mk.injEq] at hx
    have hw := hz _ _ hx.1
    have e : (strs (H := H) (ss.take len)).length + (strs (H := H) (ss.drop len)).length = ss.length := by
      simp only [strs, List.length_map, List.length_take, List.length_drop]
      omega
    rw [e, bytes9] at hw
    have hss' : ss.length = cap := by simpa using hss
    have hr : reachBytes = 140737488351232 := by decide
    omega
end Go.Proofs.YtblhenblibdjoacDoor
