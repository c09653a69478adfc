/-
  From the row's condition on the listed variables to what the walks ask; the world of the program's own initialisers meets it. What the statements share.
-/
import Derived.Test.YtapiogcoipeinaaDoorRows
import Derived.WalkKit
import Derived.ProofKit
import Derived.OpenShut
import Derived.ShutString
import Derived.ChangeOld
import Derived.Below
import Derived.LaidMore
import Derived.LaidHandle
import Derived.Stop.Joined
import Derived.Stop.LaidErr
import Derived.Lib.LaidTab
import Derived.Lib.SmallJoins
import Derived.Test.YtapiogcoipeinaaDoorVoA

namespace Go.Proofs.YtapiogcoipeinaaDoor.Vo
open Go.ChangeShapes Go.WideShapes Go.ChangeAt Go.RowKit Go.Deep
open Pk Sm Fa Rc

theorem own : ownKnob Tryd.prog.godebug = none := by kernel_rfl
abbrev laidH : List (String × DataW Unit) := [("isobar/sum.halves", Rows.laid_isobar_sum_halves)]
theorem gHalves : Tryd.prog.globalNamed "isobar/sum.halves" = some 0 := by kernel_rfl
theorem tHalves : (Tryd.prog.globals[0]?).map (·.type) = some 137 := by kernel_rfl
theorem tab_of_met {W : World} (h : laidMet Tryd.prog laidH W) : Tab W := by
  have ht : Lib.TabIs Tryd.prog W "isobar/sum.halves" .u32 (halves.map fun (n : Nat) => (n : Int)) := Lib.tabIs_of_head (rest := []) gHalves tHalves Tryd.underlying137 Tryd.underlying128 (by kernel_rfl) (by kernel_rfl) h
  intro j hj
  have := World.var?_cell gHalves ht j
  rw [this]
  have hj' : j < halves.length := hj
  simp [List.getD_eq_getElem?_getD, List.getElem?_eq_getElem hj']
theorem met_of_laidH {W : World} (h : laidMetH Tryd.prog laidH W) : Tab W := by
  rw [MakeChecks.laidMetH_plain _ _ _ (by kernel_rfl)] at h
  exact tab_of_met h

theorem door_metH (os : Os) (args : Array Value) : laidMetH Tryd.prog laidH ((World.doorLaid Tryd.prog 14 os).forCall (fun _ _ => 0) ⟨#[], args, []⟩).memory :=
  laidMetH_of_parts3 (fuel := 8) (laidMet_of_run' 8 (by kernel_rfl) (by kernel_rfl)) (by kernel_rfl) (by kernel_rfl)
end Go.Proofs.YtapiogcoipeinaaDoor.Vo
