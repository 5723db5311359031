/-
  note: the rows of the fields.
-/
import Derived.Test.YtdjfeomdiljaeaaGreatDoorNtNum
namespace Go.Proofs.YtdjfeomdiljaeaaGreatDoor
open Go.RowKit
set_option linter.unusedVariables false
set_option linter.unusedSimpArgs false

theorem results_midN {P : Program} {fn : Func} {p : Tmp} {ty : TypeId} (h : fn.results = #[.cell p ty]) (tmps : Array Value) (w : World) (g : Nat) (cs : List Value) (d : TypeDesc)
    (hp : tmps.getD p undef = .pointer (some ⟨g, 0, none⟩)) (hg : w.rangeAt g 0 cs) (hu : P.underlying ty = some d) (hd : d.isRow = true) (hi : (P.info? ty).map (·.size) = some cs.length) :
    (results fn tmps).run P w = .ok (.agg cs.toArray) w := by
  have hp' : tmps[p]?.getD undef = .pointer (some ⟨g, 0, none⟩) := by simpa using hp
  simp [results, h, hp', asAddr, run_loadVar_mid w g 0 ty cs d hg hu hd hi]
theorem range_of {W : World} {b : Nat} {cs : List Value} {t : TypeId} (h : W.heap[b]? = some (.cells cs.toArray t (0, 0))) : W.rangeAt b 0 cs := fun j v hv => by
  unfold World.cell?
  rw [h]
  simpa using hv
abbrev ptV (s : Nat) : Value := .pointer (some ⟨s, 0, none⟩)

set_option maxHeartbeats 1600000 in
theorem fieldOf_int (nm : ByteArray) (A F WF RF : Nat) (CC WC RC : Array Value) (w : World) (s : Nat) (hs : w.heap.size = s) :
    Calls Tryz.prog 174 #[.string nm, .func (.func A) #[] #[], .func (.func F) #[] CC, .func (.func WF) #[] WC, .func (.func RF) #[] RC] w fun e w' => e = .returned (.agg #[.string nm, .func (.func F) #[] CC, .func (.func 240) #[] #[ptV s], .func (.func 241) #[] #[ptV (s + 1), ptV s], .func (.func 242) #[] #[ptV (s + 2), ptV s]]) ∧
      w'.cell? ⟨s, 0, none⟩ = some (.func (.func A) #[] #[]) ∧ w'.cell? ⟨s + 1, 0, none⟩ = some (.func (.func WF) #[] WC) ∧ w'.cell? ⟨s + 2, 0, none⟩ = some (.func (.func RF) #[] RC) ∧ Below w.heap.size w w' := by
  have hnew : ∀ (o1 o2 o3 : Obj) (c : Array Value), ((((w.alloc o1).alloc o2).alloc o3).alloc (.cells c 148)).heap[s + 1 + 1 + 1]? = some (.cells c 148 (0, 0)) := fun o1 o2 o3 c => heap_new' (by rw [World.size_alloc, World.size_alloc, World.size_alloc, hs])
  go_enter Tryz.func174, Tryz.ntmps174
  go_wp2_with fail
  refine ⟨rfl, _, results_midN rfl _ _ (s + 1 + 1 + 1) [.string nm, .func (.func F) #[] CC, .func (.func 240) #[] #[ptV s], .func (.func 241) #[] #[ptV (s + 1), ptV s], .func (.func 242) #[] #[ptV (s + 2), ptV s]] _ rfl (range_of (hnew _ _ _ _)) Tryz.underlying148 rfl (by kernel_rfl), ?_⟩
  subst hs
  refine ⟨rfl, ?_, ?_, ?_, ?_⟩
  · exact cells_1 (new_old (new_old (new_old (heap_alloc_new w _) _) _) _)
  · exact cells_1 (new_old (new_old (heap_new' (by rw [World.size_alloc])) _) _)
  · exact cells_1 (new_old (heap_new' (by rw [World.size_alloc, World.size_alloc])) _)
  · exact ext_alloc (ext_alloc (ext_alloc (ext_alloc (Below.refl _ _) _) _) _) _
set_option maxHeartbeats 1600000 in
theorem fieldOf_errno (nm : ByteArray) (A F WF RF : Nat) (CC WC RC : Array Value) (w : World) (s : Nat) (hs : w.heap.size = s) :
    Calls Tryz.prog 178 #[.string nm, .func (.func A) #[] #[], .func (.func F) #[] CC, .func (.func WF) #[] WC, .func (.func RF) #[] RC] w fun e w' => e = .returned (.agg #[.string nm, .func (.func F) #[] CC, .func (.func 243) #[] #[ptV s], .func (.func 244) #[] #[ptV (s + 1), ptV s], .func (.func 245) #[] #[ptV (s + 2), ptV s]]) ∧
      w'.cell? ⟨s, 0, none⟩ = some (.func (.func A) #[] #[]) ∧ w'.cell? ⟨s + 1, 0, none⟩ = some (.func (.func WF) #[] WC) ∧ w'.cell? ⟨s + 2, 0, none⟩ = some (.func (.func RF) #[] RC) ∧ Below w.heap.size w w' := by
  have hnew : ∀ (o1 o2 o3 : Obj) (c : Array Value), ((((w.alloc o1).alloc o2).alloc o3).alloc (.cells c 148)).heap[s + 1 + 1 + 1]? = some (.cells c 148 (0, 0)) := fun o1 o2 o3 c => heap_new' (by rw [World.size_alloc, World.size_alloc, World.size_alloc, hs])
  go_enter Tryz.func178, Tryz.ntmps178
  go_wp2_with fail
  refine ⟨rfl, _, results_midN rfl _ _ (s + 1 + 1 + 1) [.string nm, .func (.func F) #[] CC, .func (.func 243) #[] #[ptV s], .func (.func 244) #[] #[ptV (s + 1), ptV s], .func (.func 245) #[] #[ptV (s + 2), ptV s]] _ rfl (range_of (hnew _ _ _ _)) Tryz.underlying148 rfl (by kernel_rfl), ?_⟩
  subst hs
  refine ⟨rfl, ?_, ?_, ?_, ?_⟩
  · exact cells_1 (new_old (new_old (new_old (heap_alloc_new w _) _) _) _)
  · exact cells_1 (new_old (new_old (heap_new' (by rw [World.size_alloc])) _) _)
  · exact cells_1 (new_old (heap_new' (by rw [World.size_alloc, World.size_alloc])) _)
  · exact ext_alloc (ext_alloc (ext_alloc (ext_alloc (Below.refl _ _) _) _) _) _
set_option maxHeartbeats 1600000 in
theorem fieldOf_view (nm : ByteArray) (A F WF RF : Nat) (CC WC RC : Array Value) (w : World) (s : Nat) (hs : w.heap.size = s) :
    Calls Tryz.prog 125 #[.string nm, .func (.func A) #[] #[], .func (.func F) #[] CC, .func (.func WF) #[] WC, .func (.func RF) #[] RC] w fun e w' => e = .returned (.agg #[.string nm, .func (.func F) #[] CC, .func (.func 179) #[] #[ptV s], .func (.func 180) #[] #[ptV (s + 1), ptV s], .func (.func 181) #[] #[ptV (s + 2), ptV s]]) ∧
      w'.cell? ⟨s, 0, none⟩ = some (.func (.func A) #[] #[]) ∧ w'.cell? ⟨s + 1, 0, none⟩ = some (.func (.func WF) #[] WC) ∧ w'.cell? ⟨s + 2, 0, none⟩ = some (.func (.func RF) #[] RC) ∧ Below w.heap.size w w' := by
  have hnew : ∀ (o1 o2 o3 : Obj) (c : Array Value), ((((w.alloc o1).alloc o2).alloc o3).alloc (.cells c 148)).heap[s + 1 + 1 + 1]? = some (.cells c 148 (0, 0)) := fun o1 o2 o3 c => heap_new' (by rw [World.size_alloc, World.size_alloc, World.size_alloc, hs])
  go_enter Tryz.func125, Tryz.ntmps125
  go_wp2_with fail
  refine ⟨rfl, _, results_midN rfl _ _ (s + 1 + 1 + 1) [.string nm, .func (.func F) #[] CC, .func (.func 179) #[] #[ptV s], .func (.func 180) #[] #[ptV (s + 1), ptV s], .func (.func 181) #[] #[ptV (s + 2), ptV s]] _ rfl (range_of (hnew _ _ _ _)) Tryz.underlying148 rfl (by kernel_rfl), ?_⟩
  subst hs
  refine ⟨rfl, ?_, ?_, ?_, ?_⟩
  · exact cells_1 (new_old (new_old (new_old (heap_alloc_new w _) _) _) _)
  · exact cells_1 (new_old (new_old (heap_new' (by rw [World.size_alloc])) _) _)
  · exact cells_1 (new_old (heap_new' (by rw [World.size_alloc, World.size_alloc])) _)
  · exact ext_alloc (ext_alloc (ext_alloc (ext_alloc (Below.refl _ _) _) _) _) _
set_option maxHeartbeats 1600000 in
theorem fieldOf_reply (nm : ByteArray) (A F WF RF : Nat) (CC WC RC : Array Value) (w : World) (s : Nat) (hs : w.heap.size = s) :
    Calls Tryz.prog 130 #[.string nm, .func (.func A) #[] #[], .func (.func F) #[] CC, .func (.func WF) #[] WC, .func (.func RF) #[] RC] w fun e w' => e = .returned (.agg #[.string nm, .func (.func F) #[] CC, .func (.func 182) #[] #[ptV s], .func (.func 183) #[] #[ptV (s + 1), ptV s], .func (.func 184) #[] #[ptV (s + 2), ptV s]]) ∧
      w'.cell? ⟨s, 0, none⟩ = some (.func (.func A) #[] #[]) ∧ w'.cell? ⟨s + 1, 0, none⟩ = some (.func (.func WF) #[] WC) ∧ w'.cell? ⟨s + 2, 0, none⟩ = some (.func (.func RF) #[] RC) ∧ Below w.heap.size w w' := by
  have hnew : ∀ (o1 o2 o3 : Obj) (c : Array Value), ((((w.alloc o1).alloc o2).alloc o3).alloc (.cells c 148)).heap[s + 1 + 1 + 1]? = some (.cells c 148 (0, 0)) := fun o1 o2 o3 c => heap_new' (by rw [World.size_alloc, World.size_alloc, World.size_alloc, hs])
  go_enter Tryz.func130, Tryz.ntmps130
  go_wp2_with fail
  refine ⟨rfl, _, results_midN rfl _ _ (s + 1 + 1 + 1) [.string nm, .func (.func F) #[] CC, .func (.func 182) #[] #[ptV s], .func (.func 183) #[] #[ptV (s + 1), ptV s], .func (.func 184) #[] #[ptV (s + 2), ptV s]] _ rfl (range_of (hnew _ _ _ _)) Tryz.underlying148 rfl (by kernel_rfl), ?_⟩
  subst hs
  refine ⟨rfl, ?_, ?_, ?_, ?_⟩
  · exact cells_1 (new_old (new_old (new_old (heap_alloc_new w _) _) _) _)
  · exact cells_1 (new_old (new_old (heap_new' (by rw [World.size_alloc])) _) _)
  · exact cells_1 (new_old (heap_new' (by rw [World.size_alloc, World.size_alloc])) _)
  · exact ext_alloc (ext_alloc (ext_alloc (ext_alloc (Below.refl _ _) _) _) _) _
set_option maxHeartbeats 1600000 in
theorem fieldOf_string (nm : ByteArray) (A F WF RF : Nat) (CC WC RC : Array Value) (w : World) (s : Nat) (hs : w.heap.size = s) :
    Calls Tryz.prog 135 #[.string nm, .func (.func A) #[] #[], .func (.func F) #[] CC, .func (.func WF) #[] WC, .func (.func RF) #[] RC] w fun e w' => e = .returned (.agg #[.string nm, .func (.func F) #[] CC, .func (.func 191) #[] #[ptV s], .func (.func 192) #[] #[ptV (s + 1), ptV s], .func (.func 193) #[] #[ptV (s + 2), ptV s]]) ∧
      w'.cell? ⟨s, 0, none⟩ = some (.func (.func A) #[] #[]) ∧ w'.cell? ⟨s + 1, 0, none⟩ = some (.func (.func WF) #[] WC) ∧ w'.cell? ⟨s + 2, 0, none⟩ = some (.func (.func RF) #[] RC) ∧ Below w.heap.size w w' := by
  have hnew : ∀ (o1 o2 o3 : Obj) (c : Array Value), ((((w.alloc o1).alloc o2).alloc o3).alloc (.cells c 148)).heap[s + 1 + 1 + 1]? = some (.cells c 148 (0, 0)) := fun o1 o2 o3 c => heap_new' (by rw [World.size_alloc, World.size_alloc, World.size_alloc, hs])
  go_enter Tryz.func135, Tryz.ntmps135
  go_wp2_with fail
  refine ⟨rfl, _, results_midN rfl _ _ (s + 1 + 1 + 1) [.string nm, .func (.func F) #[] CC, .func (.func 191) #[] #[ptV s], .func (.func 192) #[] #[ptV (s + 1), ptV s], .func (.func 193) #[] #[ptV (s + 2), ptV s]] _ rfl (range_of (hnew _ _ _ _)) Tryz.underlying148 rfl (by kernel_rfl), ?_⟩
  subst hs
  refine ⟨rfl, ?_, ?_, ?_, ?_⟩
  · exact cells_1 (new_old (new_old (new_old (heap_alloc_new w _) _) _) _)
  · exact cells_1 (new_old (new_old (heap_new' (by rw [World.size_alloc])) _) _)
  · exact cells_1 (new_old (heap_new' (by rw [World.size_alloc, World.size_alloc])) _)
  · exact ext_alloc (ext_alloc (ext_alloc (ext_alloc (Below.refl _ _) _) _) _) _
set_option maxHeartbeats 1600000 in
theorem fieldOf_ops (nm : ByteArray) (A F WF RF : Nat) (CC WC RC : Array Value) (w : World) (s : Nat) (hs : w.heap.size = s) :
    Calls Tryz.prog 196 #[.string nm, .func (.func A) #[] #[], .func (.func F) #[] CC, .func (.func WF) #[] WC, .func (.func RF) #[] RC] w fun e w' => e = .returned (.agg #[.string nm, .func (.func F) #[] CC, .func (.func 251) #[] #[ptV s], .func (.func 252) #[] #[ptV (s + 1), ptV s], .func (.func 253) #[] #[ptV (s + 2), ptV s]]) ∧
      w'.cell? ⟨s, 0, none⟩ = some (.func (.func A) #[] #[]) ∧ w'.cell? ⟨s + 1, 0, none⟩ = some (.func (.func WF) #[] WC) ∧ w'.cell? ⟨s + 2, 0, none⟩ = some (.func (.func RF) #[] RC) ∧ Below w.heap.size w w' := by
  have hnew : ∀ (o1 o2 o3 : Obj) (c : Array Value), ((((w.alloc o1).alloc o2).alloc o3).alloc (.cells c 148)).heap[s + 1 + 1 + 1]? = some (.cells c 148 (0, 0)) := fun o1 o2 o3 c => heap_new' (by rw [World.size_alloc, World.size_alloc, World.size_alloc, hs])
  go_enter Tryz.func196, Tryz.ntmps196
  go_wp2_with fail
  refine ⟨rfl, _, results_midN rfl _ _ (s + 1 + 1 + 1) [.string nm, .func (.func F) #[] CC, .func (.func 251) #[] #[ptV s], .func (.func 252) #[] #[ptV (s + 1), ptV s], .func (.func 253) #[] #[ptV (s + 2), ptV s]] _ rfl (range_of (hnew _ _ _ _)) Tryz.underlying148 rfl (by kernel_rfl), ?_⟩
  subst hs
  refine ⟨rfl, ?_, ?_, ?_, ?_⟩
  · exact cells_1 (new_old (new_old (new_old (heap_alloc_new w _) _) _) _)
  · exact cells_1 (new_old (new_old (heap_new' (by rw [World.size_alloc])) _) _)
  · exact cells_1 (new_old (heap_new' (by rw [World.size_alloc, World.size_alloc])) _)
  · exact ext_alloc (ext_alloc (ext_alloc (ext_alloc (Below.refl _ _) _) _) _) _
set_option maxHeartbeats 1600000 in
theorem fieldOf_ents (nm : ByteArray) (A F WF RF : Nat) (CC WC RC : Array Value) (w : World) (s : Nat) (hs : w.heap.size = s) :
    Calls Tryz.prog 201 #[.string nm, .func (.func A) #[] #[], .func (.func F) #[] CC, .func (.func WF) #[] WC, .func (.func RF) #[] RC] w fun e w' => e = .returned (.agg #[.string nm, .func (.func F) #[] CC, .func (.func 254) #[] #[ptV s], .func (.func 255) #[] #[ptV (s + 1), ptV s], .func (.func 256) #[] #[ptV (s + 2), ptV s]]) ∧
      w'.cell? ⟨s, 0, none⟩ = some (.func (.func A) #[] #[]) ∧ w'.cell? ⟨s + 1, 0, none⟩ = some (.func (.func WF) #[] WC) ∧ w'.cell? ⟨s + 2, 0, none⟩ = some (.func (.func RF) #[] RC) ∧ Below w.heap.size w w' := by
  have hnew : ∀ (o1 o2 o3 : Obj) (c : Array Value), ((((w.alloc o1).alloc o2).alloc o3).alloc (.cells c 148)).heap[s + 1 + 1 + 1]? = some (.cells c 148 (0, 0)) := fun o1 o2 o3 c => heap_new' (by rw [World.size_alloc, World.size_alloc, World.size_alloc, hs])
  go_enter Tryz.func201, Tryz.ntmps201
  go_wp2_with fail
  refine ⟨rfl, _, results_midN rfl _ _ (s + 1 + 1 + 1) [.string nm, .func (.func F) #[] CC, .func (.func 254) #[] #[ptV s], .func (.func 255) #[] #[ptV (s + 1), ptV s], .func (.func 256) #[] #[ptV (s + 2), ptV s]] _ rfl (range_of (hnew _ _ _ _)) Tryz.underlying148 rfl (by kernel_rfl), ?_⟩
  subst hs
  refine ⟨rfl, ?_, ?_, ?_, ?_⟩
  · exact cells_1 (new_old (new_old (new_old (heap_alloc_new w _) _) _) _)
  · exact cells_1 (new_old (new_old (heap_new' (by rw [World.size_alloc])) _) _)
  · exact cells_1 (new_old (heap_new' (by rw [World.size_alloc, World.size_alloc])) _)
  · exact ext_alloc (ext_alloc (ext_alloc (ext_alloc (Below.refl _ _) _) _) _) _
set_option maxHeartbeats 1600000 in
theorem fieldOf_was (nm : ByteArray) (A F WF RF : Nat) (CC WC RC : Array Value) (w : World) (s : Nat) (hs : w.heap.size = s) :
    Calls Tryz.prog 207 #[.string nm, .func (.func A) #[] #[], .func (.func F) #[] CC, .func (.func WF) #[] WC, .func (.func RF) #[] RC] w fun e w' => e = .returned (.agg #[.string nm, .func (.func F) #[] CC, .func (.func 257) #[] #[ptV s], .func (.func 258) #[] #[ptV (s + 1), ptV s], .func (.func 259) #[] #[ptV (s + 2), ptV s]]) ∧
      w'.cell? ⟨s, 0, none⟩ = some (.func (.func A) #[] #[]) ∧ w'.cell? ⟨s + 1, 0, none⟩ = some (.func (.func WF) #[] WC) ∧ w'.cell? ⟨s + 2, 0, none⟩ = some (.func (.func RF) #[] RC) ∧ Below w.heap.size w w' := by
  have hnew : ∀ (o1 o2 o3 : Obj) (c : Array Value), ((((w.alloc o1).alloc o2).alloc o3).alloc (.cells c 148)).heap[s + 1 + 1 + 1]? = some (.cells c 148 (0, 0)) := fun o1 o2 o3 c => heap_new' (by rw [World.size_alloc, World.size_alloc, World.size_alloc, hs])
  go_enter Tryz.func207, Tryz.ntmps207
  go_wp2_with fail
  refine ⟨rfl, _, results_midN rfl _ _ (s + 1 + 1 + 1) [.string nm, .func (.func F) #[] CC, .func (.func 257) #[] #[ptV s], .func (.func 258) #[] #[ptV (s + 1), ptV s], .func (.func 259) #[] #[ptV (s + 2), ptV s]] _ rfl (range_of (hnew _ _ _ _)) Tryz.underlying148 rfl (by kernel_rfl), ?_⟩
  subst hs
  refine ⟨rfl, ?_, ?_, ?_, ?_⟩
  · exact cells_1 (new_old (new_old (new_old (heap_alloc_new w _) _) _) _)
  · exact cells_1 (new_old (new_old (heap_new' (by rw [World.size_alloc])) _) _)
  · exact cells_1 (new_old (heap_new' (by rw [World.size_alloc, World.size_alloc])) _)
  · exact ext_alloc (ext_alloc (ext_alloc (ext_alloc (Below.refl _ _) _) _) _) _
set_option maxHeartbeats 1600000 in
theorem fieldOf_parts (nm : ByteArray) (A F WF RF : Nat) (CC WC RC : Array Value) (w : World) (s : Nat) (hs : w.heap.size = s) :
    Calls Tryz.prog 217 #[.string nm, .func (.func A) #[] #[], .func (.func F) #[] CC, .func (.func WF) #[] WC, .func (.func RF) #[] RC] w fun e w' => e = .returned (.agg #[.string nm, .func (.func F) #[] CC, .func (.func 261) #[] #[ptV s], .func (.func 262) #[] #[ptV (s + 1), ptV s], .func (.func 263) #[] #[ptV (s + 2), ptV s]]) ∧
      w'.cell? ⟨s, 0, none⟩ = some (.func (.func A) #[] #[]) ∧ w'.cell? ⟨s + 1, 0, none⟩ = some (.func (.func WF) #[] WC) ∧ w'.cell? ⟨s + 2, 0, none⟩ = some (.func (.func RF) #[] RC) ∧ Below w.heap.size w w' := by
  have hnew : ∀ (o1 o2 o3 : Obj) (c : Array Value), ((((w.alloc o1).alloc o2).alloc o3).alloc (.cells c 148)).heap[s + 1 + 1 + 1]? = some (.cells c 148 (0, 0)) := fun o1 o2 o3 c => heap_new' (by rw [World.size_alloc, World.size_alloc, World.size_alloc, hs])
  go_enter Tryz.func217, Tryz.ntmps217
  go_wp2_with fail
  refine ⟨rfl, _, results_midN rfl _ _ (s + 1 + 1 + 1) [.string nm, .func (.func F) #[] CC, .func (.func 261) #[] #[ptV s], .func (.func 262) #[] #[ptV (s + 1), ptV s], .func (.func 263) #[] #[ptV (s + 2), ptV s]] _ rfl (range_of (hnew _ _ _ _)) Tryz.underlying148 rfl (by kernel_rfl), ?_⟩
  subst hs
  refine ⟨rfl, ?_, ?_, ?_, ?_⟩
  · exact cells_1 (new_old (new_old (new_old (heap_alloc_new w _) _) _) _)
  · exact cells_1 (new_old (new_old (heap_new' (by rw [World.size_alloc])) _) _)
  · exact cells_1 (new_old (heap_new' (by rw [World.size_alloc, World.size_alloc])) _)
  · exact ext_alloc (ext_alloc (ext_alloc (ext_alloc (Below.refl _ _) _) _) _) _
set_option maxHeartbeats 1600000 in
theorem fieldOf_items (nm : ByteArray) (A F WF RF : Nat) (CC WC RC : Array Value) (w : World) (s : Nat) (hs : w.heap.size = s) :
    Calls Tryz.prog 227 #[.string nm, .func (.func A) #[] #[], .func (.func F) #[] CC, .func (.func WF) #[] WC, .func (.func RF) #[] RC] w fun e w' => e = .returned (.agg #[.string nm, .func (.func F) #[] CC, .func (.func 270) #[] #[ptV s], .func (.func 271) #[] #[ptV (s + 1), ptV s], .func (.func 272) #[] #[ptV (s + 2), ptV s]]) ∧
      w'.cell? ⟨s, 0, none⟩ = some (.func (.func A) #[] #[]) ∧ w'.cell? ⟨s + 1, 0, none⟩ = some (.func (.func WF) #[] WC) ∧ w'.cell? ⟨s + 2, 0, none⟩ = some (.func (.func RF) #[] RC) ∧ Below w.heap.size w w' := by
  have hnew : ∀ (o1 o2 o3 : Obj) (c : Array Value), ((((w.alloc o1).alloc o2).alloc o3).alloc (.cells c 148)).heap[s + 1 + 1 + 1]? = some (.cells c 148 (0, 0)) := fun o1 o2 o3 c => heap_new' (by rw [World.size_alloc, World.size_alloc, World.size_alloc, hs])
  go_enter Tryz.func227, Tryz.ntmps227
  go_wp2_with fail
  refine ⟨rfl, _, results_midN rfl _ _ (s + 1 + 1 + 1) [.string nm, .func (.func F) #[] CC, .func (.func 270) #[] #[ptV s], .func (.func 271) #[] #[ptV (s + 1), ptV s], .func (.func 272) #[] #[ptV (s + 2), ptV s]] _ rfl (range_of (hnew _ _ _ _)) Tryz.underlying148 rfl (by kernel_rfl), ?_⟩
  subst hs
  refine ⟨rfl, ?_, ?_, ?_, ?_⟩
  · exact cells_1 (new_old (new_old (new_old (heap_alloc_new w _) _) _) _)
  · exact cells_1 (new_old (new_old (heap_new' (by rw [World.size_alloc])) _) _)
  · exact cells_1 (new_old (heap_new' (by rw [World.size_alloc, World.size_alloc])) _)
  · exact ext_alloc (ext_alloc (ext_alloc (ext_alloc (Below.refl _ _) _) _) _) _
end Go.Proofs.YtdjfeomdiljaeaaGreatDoor
