/-
  What the plain statements share: the program's settings, and that it lays nothing else. Plain theorems.
-/
import Derived.Test.YtjholhmgainbfaaRows
import Derived.WalkKit
import Derived.ProofKit
import Derived.OpenShut
import Derived.ShutString
import Derived.ChangeOld
import Derived.Below
import Derived.Deep.SlicePairs
import Derived.Test.YtjholhmgainbfaaGaWalk
namespace Go.Proofs.Ytjholhmgainbfaa.Ga
theorem own : ownKnob Try.prog.godebug = none := by kernel_rfl
theorem laidOut : laidOutB Try.prog = true := by kernel_rfl
end Go.Proofs.Ytjholhmgainbfaa.Ga
