/-
  No cell of these rows narrows 'for every input' (looked for: loops, veiled, ifaces, maps, wideKeys, modest, calm, conditions, laid).
  DERIVED. THE GIVEN ROWS OF THIS SEAT. 6 by the template 'for every input the law returns true; each argument reads behind the call as it read before'; 0 by the template 'total and deterministic' (their statements: YtlbhnlpdijhmlaaTotals.lean).
  GIVEN WITH THE SEED: the statements are not yours to turn. If you find one false, say at which input.
  Laid BY PROGRAM, IN A SANDBOX (cutbox-rows.mjs): the forced cells as the released guide's own fill.sh prints them over the translation cc8702f9ccaf6152… (all of the seat's roots in one cut). By AI agents, Wed Nov 11 2026. No macro, syntax, notation, axiom, sorry.
-/
import Derived.Test.YtlbhnlpdijhmlaaChecked
import GoSem.Claim
import GoSem.ClaimJoined
import GoSem.ClaimMapViews
import Derived.JoinedTies
import Derived.KernelRfl
namespace Go.Proofs.Ytlbhnlpdijhmlaa
/- THE CELL 'sum', in the pinned program and in every row, IS THE sha256 OF THE DUMP (.gsa) THAT YtlbhnlpdijhmlaaProg.lean LOADS. Nothing in Lean hashes anything: it is a label: what it is worth is what the hold of that sum in a sandbox is worth. -/
noncomputable def Try.pinned : Pinned := { name := "ytlbhnlpdijhmlaa", sum := "cc8702f9ccaf61523f57dbdf98b48ab7961256b3f31b4747147e37034d1534e4", checked := Try.checked }
namespace Rows
def none {H : Type} : Left H := { results := [], args := [] }

/-- 'heraldlaw12.ViewFills': WHATEVER THE INPUT: true; the input reads as it did. -/
def viewFillsSpec : ChangeSpec := { name := "viewFills", fn := fun _ => fun
  | [d1, d2] => { results := [.lit (.bool true)], args := [d1, d2] }
  | _ => none }
def viewFillsRow : OpenClaim := { program := "ytlbhnlpdijhmlaa", sum := "cc8702f9ccaf61523f57dbdf98b48ab7961256b3f31b4747147e37034d1534e4", func := "herald/heraldlaw12.ViewFills", spec := "viewFills", inPlace := ["(*internal/sync.Mutex).Lock", "internal/race.Disable", "sync/atomic.CompareAndSwapInt32", "internal/race.Enable", "internal/race.Acquire", "(*internal/sync.Mutex).lockSlow", "internal/sync.runtime_canSpin", "internal/sync.runtime_doSpin", "internal/sync.throw", "internal/sync.runtime_nanotime", "internal/sync.runtime_SemacquireMutex", "sync/atomic.AddInt32", "(*internal/sync.Mutex).Unlock", "internal/race.ReleaseMerge", "(*internal/sync.Mutex).unlockSlow", "internal/sync.fatal", "internal/sync.runtime_Semrelease"], apart := false }
def ViewFillsSaid : Prop := viewFillsRow.holds Try.pinned (OpenSpec.ofChange viewFillsSpec)

/-- ITS FALSE NEIGHBOUR: 'it returns false'. Refute it at one input. -/
def viewFillsWrong : ChangeSpec := { name := "viewFills", fn := fun _ => fun
  | [d1, d2] => { results := [.lit (.bool false)], args := [d1, d2] }
  | _ => none }
def ViewFillsWrongFalsely : Prop := viewFillsRow.holds Try.pinned (OpenSpec.ofChange viewFillsWrong)

/-- 'heraldlaw12.ViewKeepsWhatWasSettled': WHATEVER THE INPUT: true; the input reads as it did. -/
def viewKeepsWhatWasSettledSpec : ChangeSpec := { name := "viewKeepsWhatWasSettled", fn := fun _ => fun
  | [d1, d2, d3] => { results := [.lit (.bool true)], args := [d1, d2, d3] }
  | _ => none }
def viewKeepsWhatWasSettledRow : OpenClaim := { program := "ytlbhnlpdijhmlaa", sum := "cc8702f9ccaf61523f57dbdf98b48ab7961256b3f31b4747147e37034d1534e4", func := "herald/heraldlaw12.ViewKeepsWhatWasSettled", spec := "viewKeepsWhatWasSettled", inPlace := ["(*internal/sync.Mutex).Lock", "internal/race.Disable", "sync/atomic.CompareAndSwapInt32", "internal/race.Enable", "internal/race.Acquire", "(*internal/sync.Mutex).lockSlow", "internal/sync.runtime_canSpin", "internal/sync.runtime_doSpin", "internal/sync.throw", "internal/sync.runtime_nanotime", "internal/sync.runtime_SemacquireMutex", "sync/atomic.AddInt32", "(*internal/sync.Mutex).Unlock", "internal/race.ReleaseMerge", "(*internal/sync.Mutex).unlockSlow", "internal/sync.fatal", "internal/sync.runtime_Semrelease"], unfollowed := true, recurses := true, apart := false }
def ViewKeepsWhatWasSettledSaid : Prop := viewKeepsWhatWasSettledRow.holds Try.pinned (OpenSpec.ofChange viewKeepsWhatWasSettledSpec)

/-- ITS FALSE NEIGHBOUR: 'it returns false'. Refute it at one input. -/
def viewKeepsWhatWasSettledWrong : ChangeSpec := { name := "viewKeepsWhatWasSettled", fn := fun _ => fun
  | [d1, d2, d3] => { results := [.lit (.bool false)], args := [d1, d2, d3] }
  | _ => none }
def ViewKeepsWhatWasSettledWrongFalsely : Prop := viewKeepsWhatWasSettledRow.holds Try.pinned (OpenSpec.ofChange viewKeepsWhatWasSettledWrong)

/-- 'heraldlaw12.ViewChains': WHATEVER THE INPUT: true; the input reads as it did. -/
def viewChainsSpec : ChangeSpec := { name := "viewChains", fn := fun _ => fun
  | [d1, d2] => { results := [.lit (.bool true)], args := [d1, d2] }
  | _ => none }
def viewChainsRow : OpenClaim := { program := "ytlbhnlpdijhmlaa", sum := "cc8702f9ccaf61523f57dbdf98b48ab7961256b3f31b4747147e37034d1534e4", func := "herald/heraldlaw12.ViewChains", spec := "viewChains", inPlace := ["(*internal/sync.Mutex).Lock", "internal/race.Disable", "sync/atomic.CompareAndSwapInt32", "internal/race.Enable", "internal/race.Acquire", "(*internal/sync.Mutex).lockSlow", "internal/sync.runtime_canSpin", "internal/sync.runtime_doSpin", "internal/sync.throw", "internal/sync.runtime_nanotime", "internal/sync.runtime_SemacquireMutex", "sync/atomic.AddInt32", "(*internal/sync.Mutex).Unlock", "internal/race.ReleaseMerge", "(*internal/sync.Mutex).unlockSlow", "internal/sync.fatal", "internal/sync.runtime_Semrelease"], unfollowed := true, recurses := true, apart := false }
def ViewChainsSaid : Prop := viewChainsRow.holds Try.pinned (OpenSpec.ofChange viewChainsSpec)

/-- ITS FALSE NEIGHBOUR: 'it returns false'. Refute it at one input. -/
def viewChainsWrong : ChangeSpec := { name := "viewChains", fn := fun _ => fun
  | [d1, d2] => { results := [.lit (.bool false)], args := [d1, d2] }
  | _ => none }
def ViewChainsWrongFalsely : Prop := viewChainsRow.holds Try.pinned (OpenSpec.ofChange viewChainsWrong)

/-- 'heraldlaw12.ViewTells': WHATEVER THE INPUT: true; the input reads as it did. -/
def viewTellsSpec : ChangeSpec := { name := "viewTells", fn := fun _ => fun
  | [d1, d2, d3, d4] => { results := [.lit (.bool true)], args := [d1, d2, d3, d4] }
  | _ => none }
def viewTellsRow : OpenClaim := { program := "ytlbhnlpdijhmlaa", sum := "cc8702f9ccaf61523f57dbdf98b48ab7961256b3f31b4747147e37034d1534e4", func := "herald/heraldlaw12.ViewTells", spec := "viewTells", inPlace := ["(*internal/sync.Mutex).Lock", "internal/race.Disable", "sync/atomic.CompareAndSwapInt32", "internal/race.Enable", "internal/race.Acquire", "(*internal/sync.Mutex).lockSlow", "internal/sync.runtime_canSpin", "internal/sync.runtime_doSpin", "internal/sync.throw", "internal/sync.runtime_nanotime", "internal/sync.runtime_SemacquireMutex", "sync/atomic.AddInt32", "(*internal/sync.Mutex).Unlock", "internal/race.ReleaseMerge", "(*internal/sync.Mutex).unlockSlow", "internal/sync.fatal", "internal/sync.runtime_Semrelease"], unfollowed := true, recurses := true, apart := false }
def ViewTellsSaid : Prop := viewTellsRow.holds Try.pinned (OpenSpec.ofChange viewTellsSpec)

/-- ITS FALSE NEIGHBOUR: 'it returns false'. Refute it at one input. -/
def viewTellsWrong : ChangeSpec := { name := "viewTells", fn := fun _ => fun
  | [d1, d2, d3, d4] => { results := [.lit (.bool false)], args := [d1, d2, d3, d4] }
  | _ => none }
def ViewTellsWrongFalsely : Prop := viewTellsRow.holds Try.pinned (OpenSpec.ofChange viewTellsWrong)

/-- 'heraldlaw12.ViewIsNew': WHATEVER THE INPUT: true; the input reads as it did. -/
def viewIsNewSpec : ChangeSpec := { name := "viewIsNew", fn := fun _ => fun
  | [d1, d2] => { results := [.lit (.bool true)], args := [d1, d2] }
  | _ => none }
def viewIsNewRow : OpenClaim := { program := "ytlbhnlpdijhmlaa", sum := "cc8702f9ccaf61523f57dbdf98b48ab7961256b3f31b4747147e37034d1534e4", func := "herald/heraldlaw12.ViewIsNew", spec := "viewIsNew", inPlace := ["(*internal/sync.Mutex).Lock", "internal/race.Disable", "sync/atomic.CompareAndSwapInt32", "internal/race.Enable", "internal/race.Acquire", "(*internal/sync.Mutex).lockSlow", "internal/sync.runtime_canSpin", "internal/sync.runtime_doSpin", "internal/sync.throw", "internal/sync.runtime_nanotime", "internal/sync.runtime_SemacquireMutex", "sync/atomic.AddInt32", "(*internal/sync.Mutex).Unlock", "internal/race.ReleaseMerge", "(*internal/sync.Mutex).unlockSlow", "internal/sync.fatal", "internal/sync.runtime_Semrelease"], unfollowed := true, recurses := true, apart := false }
def ViewIsNewSaid : Prop := viewIsNewRow.holds Try.pinned (OpenSpec.ofChange viewIsNewSpec)

/-- ITS FALSE NEIGHBOUR: 'it returns false'. Refute it at one input. -/
def viewIsNewWrong : ChangeSpec := { name := "viewIsNew", fn := fun _ => fun
  | [d1, d2] => { results := [.lit (.bool false)], args := [d1, d2] }
  | _ => none }
def ViewIsNewWrongFalsely : Prop := viewIsNewRow.holds Try.pinned (OpenSpec.ofChange viewIsNewWrong)

/-- 'heraldlaw12.ViewOfNothing': WHATEVER THE INPUT: true; the input reads as it did. -/
def viewOfNothingSpec : ChangeSpec := { name := "viewOfNothing", fn := fun _ => fun
  | [d] => { results := [.lit (.bool true)], args := [d] }
  | _ => none }
def viewOfNothingRow : OpenClaim := { program := "ytlbhnlpdijhmlaa", sum := "cc8702f9ccaf61523f57dbdf98b48ab7961256b3f31b4747147e37034d1534e4", func := "herald/heraldlaw12.ViewOfNothing", spec := "viewOfNothing", inPlace := ["(*internal/sync.Mutex).Lock", "internal/race.Disable", "sync/atomic.CompareAndSwapInt32", "internal/race.Enable", "internal/race.Acquire", "(*internal/sync.Mutex).lockSlow", "internal/sync.runtime_canSpin", "internal/sync.runtime_doSpin", "internal/sync.throw", "internal/sync.runtime_nanotime", "internal/sync.runtime_SemacquireMutex", "sync/atomic.AddInt32", "(*internal/sync.Mutex).Unlock", "internal/race.ReleaseMerge", "(*internal/sync.Mutex).unlockSlow", "internal/sync.fatal", "internal/sync.runtime_Semrelease"], unfollowed := true, recurses := true, apart := false }
def ViewOfNothingSaid : Prop := viewOfNothingRow.holds Try.pinned (OpenSpec.ofChange viewOfNothingSpec)

/-- ITS FALSE NEIGHBOUR: 'it returns false'. Refute it at one input. -/
def viewOfNothingWrong : ChangeSpec := { name := "viewOfNothing", fn := fun _ => fun
  | [d] => { results := [.lit (.bool false)], args := [d] }
  | _ => none }
def ViewOfNothingWrongFalsely : Prop := viewOfNothingRow.holds Try.pinned (OpenSpec.ofChange viewOfNothingWrong)

/- THE SECOND FORM. 'bulk': how many values and letters a reading holds, each counted each time it is reached (what is shared counts as often as it is met; a slice's spare places count too). A statement '..UptoSaid' is the law's where the arguments, and the package variables that the reading takes, are together of bulk at most 1048576: NARROWER than '..Said'. Prove '..Said' where nothing that the law and all that it calls make is longer than what came in: it says more and counts as full. Else prove '..UptoSaid'. A law counts once. -/
mutual
def uptoBulk {H : Type} : DataW H → Nat
  | .lit (.string bytes) => bytes.length + 1
  | .lit _ => 1
  | .nil => 1
  | .ptr d => uptoBulk d + 1
  | .slice elems spare => uptoBulkAll elems + uptoBulkAll spare + 1
  | .agg parts => uptoBulkAll parts + 1
  | .iface _ d => uptoBulk d + 1
  | .map entries => uptoBulkEntries entries + 1
  | .held _ => 1
def uptoBulkAll {H : Type} : List (DataW H) → Nat
  | [] => 0
  | d :: r => uptoBulk d + uptoBulkAll r
def uptoBulkEntries {H : Type} : List (Lit × DataW H) → Nat
  | [] => 0
  | x :: r => uptoBulkEntry x + uptoBulkEntries r
def uptoBulkEntry {H : Type} : Lit × DataW H → Nat
  | (.string bytes, d) => bytes.length + uptoBulk d + 1
  | (_, d) => uptoBulk d + 1
 end
def uptoSmall : (H : Type) → List (DataW H) → Bool := fun _ ds => decide (uptoBulkAll ds ≤ 1048576)
def OpenSpec.upto (s : _root_.Go.ChangeSpec) : _root_.Go.OpenSpec := { _root_.Go.OpenSpec.ofChange s with cond := some uptoSmall }

/-- 'heraldlaw12.ViewFills', WHERE WHAT IT READS IS OF BULK AT MOST 1048576: true; the input reads as it did. -/
def viewFillsUptoRow : OpenClaim := { program := "ytlbhnlpdijhmlaa", sum := "cc8702f9ccaf61523f57dbdf98b48ab7961256b3f31b4747147e37034d1534e4", func := "herald/heraldlaw12.ViewFills", spec := "viewFills", inPlace := ["(*internal/sync.Mutex).Lock", "internal/race.Disable", "sync/atomic.CompareAndSwapInt32", "internal/race.Enable", "internal/race.Acquire", "(*internal/sync.Mutex).lockSlow", "internal/sync.runtime_canSpin", "internal/sync.runtime_doSpin", "internal/sync.throw", "internal/sync.runtime_nanotime", "internal/sync.runtime_SemacquireMutex", "sync/atomic.AddInt32", "(*internal/sync.Mutex).Unlock", "internal/race.ReleaseMerge", "(*internal/sync.Mutex).unlockSlow", "internal/sync.fatal", "internal/sync.runtime_Semrelease"], apart := false, narrowed := true }
def ViewFillsUptoSaid : Prop := viewFillsUptoRow.holds Try.pinned (OpenSpec.upto viewFillsSpec)

/-- 'heraldlaw12.ViewKeepsWhatWasSettled', WHERE WHAT IT READS IS OF BULK AT MOST 1048576: true; the input reads as it did. -/
def viewKeepsWhatWasSettledUptoRow : OpenClaim := { program := "ytlbhnlpdijhmlaa", sum := "cc8702f9ccaf61523f57dbdf98b48ab7961256b3f31b4747147e37034d1534e4", func := "herald/heraldlaw12.ViewKeepsWhatWasSettled", spec := "viewKeepsWhatWasSettled", inPlace := ["(*internal/sync.Mutex).Lock", "internal/race.Disable", "sync/atomic.CompareAndSwapInt32", "internal/race.Enable", "internal/race.Acquire", "(*internal/sync.Mutex).lockSlow", "internal/sync.runtime_canSpin", "internal/sync.runtime_doSpin", "internal/sync.throw", "internal/sync.runtime_nanotime", "internal/sync.runtime_SemacquireMutex", "sync/atomic.AddInt32", "(*internal/sync.Mutex).Unlock", "internal/race.ReleaseMerge", "(*internal/sync.Mutex).unlockSlow", "internal/sync.fatal", "internal/sync.runtime_Semrelease"], unfollowed := true, recurses := true, apart := false, narrowed := true }
def ViewKeepsWhatWasSettledUptoSaid : Prop := viewKeepsWhatWasSettledUptoRow.holds Try.pinned (OpenSpec.upto viewKeepsWhatWasSettledSpec)

/-- 'heraldlaw12.ViewChains', WHERE WHAT IT READS IS OF BULK AT MOST 1048576: true; the input reads as it did. -/
def viewChainsUptoRow : OpenClaim := { program := "ytlbhnlpdijhmlaa", sum := "cc8702f9ccaf61523f57dbdf98b48ab7961256b3f31b4747147e37034d1534e4", func := "herald/heraldlaw12.ViewChains", spec := "viewChains", inPlace := ["(*internal/sync.Mutex).Lock", "internal/race.Disable", "sync/atomic.CompareAndSwapInt32", "internal/race.Enable", "internal/race.Acquire", "(*internal/sync.Mutex).lockSlow", "internal/sync.runtime_canSpin", "internal/sync.runtime_doSpin", "internal/sync.throw", "internal/sync.runtime_nanotime", "internal/sync.runtime_SemacquireMutex", "sync/atomic.AddInt32", "(*internal/sync.Mutex).Unlock", "internal/race.ReleaseMerge", "(*internal/sync.Mutex).unlockSlow", "internal/sync.fatal", "internal/sync.runtime_Semrelease"], unfollowed := true, recurses := true, apart := false, narrowed := true }
def ViewChainsUptoSaid : Prop := viewChainsUptoRow.holds Try.pinned (OpenSpec.upto viewChainsSpec)

/-- 'heraldlaw12.ViewTells', WHERE WHAT IT READS IS OF BULK AT MOST 1048576: true; the input reads as it did. -/
def viewTellsUptoRow : OpenClaim := { program := "ytlbhnlpdijhmlaa", sum := "cc8702f9ccaf61523f57dbdf98b48ab7961256b3f31b4747147e37034d1534e4", func := "herald/heraldlaw12.ViewTells", spec := "viewTells", inPlace := ["(*internal/sync.Mutex).Lock", "internal/race.Disable", "sync/atomic.CompareAndSwapInt32", "internal/race.Enable", "internal/race.Acquire", "(*internal/sync.Mutex).lockSlow", "internal/sync.runtime_canSpin", "internal/sync.runtime_doSpin", "internal/sync.throw", "internal/sync.runtime_nanotime", "internal/sync.runtime_SemacquireMutex", "sync/atomic.AddInt32", "(*internal/sync.Mutex).Unlock", "internal/race.ReleaseMerge", "(*internal/sync.Mutex).unlockSlow", "internal/sync.fatal", "internal/sync.runtime_Semrelease"], unfollowed := true, recurses := true, apart := false, narrowed := true }
def ViewTellsUptoSaid : Prop := viewTellsUptoRow.holds Try.pinned (OpenSpec.upto viewTellsSpec)

/-- 'heraldlaw12.ViewIsNew', WHERE WHAT IT READS IS OF BULK AT MOST 1048576: true; the input reads as it did. -/
def viewIsNewUptoRow : OpenClaim := { program := "ytlbhnlpdijhmlaa", sum := "cc8702f9ccaf61523f57dbdf98b48ab7961256b3f31b4747147e37034d1534e4", func := "herald/heraldlaw12.ViewIsNew", spec := "viewIsNew", inPlace := ["(*internal/sync.Mutex).Lock", "internal/race.Disable", "sync/atomic.CompareAndSwapInt32", "internal/race.Enable", "internal/race.Acquire", "(*internal/sync.Mutex).lockSlow", "internal/sync.runtime_canSpin", "internal/sync.runtime_doSpin", "internal/sync.throw", "internal/sync.runtime_nanotime", "internal/sync.runtime_SemacquireMutex", "sync/atomic.AddInt32", "(*internal/sync.Mutex).Unlock", "internal/race.ReleaseMerge", "(*internal/sync.Mutex).unlockSlow", "internal/sync.fatal", "internal/sync.runtime_Semrelease"], unfollowed := true, recurses := true, apart := false, narrowed := true }
def ViewIsNewUptoSaid : Prop := viewIsNewUptoRow.holds Try.pinned (OpenSpec.upto viewIsNewSpec)

/-- 'heraldlaw12.ViewOfNothing', WHERE WHAT IT READS IS OF BULK AT MOST 1048576: true; the input reads as it did. -/
def viewOfNothingUptoRow : OpenClaim := { program := "ytlbhnlpdijhmlaa", sum := "cc8702f9ccaf61523f57dbdf98b48ab7961256b3f31b4747147e37034d1534e4", func := "herald/heraldlaw12.ViewOfNothing", spec := "viewOfNothing", inPlace := ["(*internal/sync.Mutex).Lock", "internal/race.Disable", "sync/atomic.CompareAndSwapInt32", "internal/race.Enable", "internal/race.Acquire", "(*internal/sync.Mutex).lockSlow", "internal/sync.runtime_canSpin", "internal/sync.runtime_doSpin", "internal/sync.throw", "internal/sync.runtime_nanotime", "internal/sync.runtime_SemacquireMutex", "sync/atomic.AddInt32", "(*internal/sync.Mutex).Unlock", "internal/race.ReleaseMerge", "(*internal/sync.Mutex).unlockSlow", "internal/sync.fatal", "internal/sync.runtime_Semrelease"], unfollowed := true, recurses := true, apart := false, narrowed := true }
def ViewOfNothingUptoSaid : Prop := viewOfNothingUptoRow.holds Try.pinned (OpenSpec.upto viewOfNothingSpec)

end Rows
end Go.Proofs.Ytlbhnlpdijhmlaa
