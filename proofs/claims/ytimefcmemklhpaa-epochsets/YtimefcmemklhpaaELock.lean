/- The lock's functions and types, by their numbers. -/
import Derived.Test.YtimefcmemklhpaaProg
import Derived.Conc.MuLone
import Derived.KernelRfl
namespace Go.Proofs.Ytimefcmemklhpaa.E
/-- sync.Mutex at this program. -/
abbrev muL : Go.Conc.Locks.MuLink := { lock := 32, unlock := 33, ilock := 61, iunlock := 62, lockSlow := 77, unlockSlow := 80, disable := 73, enable := 75, acquire := 76, relMerge := 78, cas32 := 74, add32 := 79, tMutex := 70, tIMutex := 68, tPMutex := 89, tPIMutex := 102, tPI32 := 104, tUP := 106, tNoCopy := 65, tU32 := 66 }
set_option maxRecDepth 100000 in
theorem muLib : Go.Conc.Locks.MuLib Try.prog muL := by
  constructor <;> first | exact Try.func32 | exact Try.func33 | exact Try.func61 | exact Try.func62 | exact Try.func73 | exact Try.func75 | exact Try.func76 | exact Try.func78 | exact Try.func74 | exact Try.func79 | (intro w; kernel_rfl) | kernel_rfl
end Go.Proofs.Ytimefcmemklhpaa.E
