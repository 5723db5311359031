/-
  The locks' functions and types as this program holds them.
-/
import Derived.Test.YtjcnigffpamcgaaGreatDoorRows
import Derived.Conc.MuLone
import Derived.Conc.MuData
import Derived.KernelRfl
namespace Go.Proofs
abbrev Tryz.muLink : Go.Conc.Locks.MuLink := { lock := 65, unlock := 66, ilock := 121, iunlock := 122, lockSlow := 184, unlockSlow := 187, disable := 180, enable := 182, acquire := 183, relMerge := 185, cas32 := 181, add32 := 186, tMutex := 44, tIMutex := 42, tPMutex := 232, tPIMutex := 319, tPI32 := 321, tUP := 323, tNoCopy := 39, tU32 := 40 }
theorem Tryz.muLib : Go.Conc.Locks.MuLib Tryz.prog Tryz.muLink :=
  ⟨Tryz.func65, Tryz.func66, Tryz.func121, Tryz.func122, Tryz.func180, Tryz.func182, Tryz.func183, Tryz.func185, Tryz.func181, Tryz.func186, Tryz.underlying42, Tryz.runUnderlying42, Tryz.sizeOf42, Tryz.isAgg42, Tryz.zeroValue42, Tryz.underlying44, Tryz.runUnderlying44, Tryz.sizeOf44, Tryz.isAgg44, Tryz.zeroValue44, Tryz.underlying232, Tryz.runUnderlying232, Tryz.sizeOf232, Tryz.isAgg232, Tryz.zeroValue232, Tryz.underlying319, Tryz.runUnderlying319, Tryz.sizeOf319, Tryz.isAgg319, Tryz.zeroValue319, Tryz.underlying321, Tryz.runUnderlying321, Tryz.sizeOf321, Tryz.isAgg321, Tryz.zeroValue321, Tryz.underlying323, Tryz.runUnderlying323, Tryz.sizeOf323, Tryz.isAgg323, Tryz.zeroValue323, Tryz.underlying39, Tryz.runUnderlying39, Tryz.sizeOf39, Tryz.isAgg39, Tryz.zeroValue39, Tryz.underlying21, Tryz.runUnderlying21, Tryz.sizeOf21, Tryz.isAgg21, Tryz.zeroValue21, (by kernel_rfl)⟩
end Go.Proofs
