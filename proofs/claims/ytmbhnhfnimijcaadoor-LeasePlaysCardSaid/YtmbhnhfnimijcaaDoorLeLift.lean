/-
  From the row's condition on the library's variable errors.errorType to what the walks ask; the world of the program's own initialisers meets it. What the tied statements share.
-/
import Derived.Test.YtmbhnhfnimijcaaDoorRows
import Derived.WalkKit
import Derived.ProofKit
import Derived.OpenShut
import Derived.ShutString
import Derived.ChangeOld
import Derived.Below
import Derived.LaidMore
import Derived.LaidHandle
import Derived.Stop.Joined
import Derived.Stop.LaidErr
import Derived.Lib.LaidTab
import Derived.Test.YtmbhnhfnimijcaaDoorLeErrD
import Derived.Test.YtmbhnhfnimijcaaDoorLeOp
namespace Go.Proofs.YtmbhnhfnimijcaaDoor.Le
open Go.ChangeShapes Go.WideShapes Go.ChangeAt Go.RowKit
open Pk Fa

abbrev laidE : List (String × DataW Unit) := [("errors.errorType", Rows.laid_errors_errorType)]
theorem gEty : Tryd.prog.globalNamed "errors.errorType" = some 0 := by kernel_rfl
theorem rtRow : (Tryd.prog.cutTypes.find? (·.1 == "internal/reflectlite.rtype")).map (·.2) = some 86 := by kernel_rfl
def NT : Nat := 140
theorem ntypes : Tryd.prog.types.size = NT := by kernel_rfl
theorem oneRow : ((List.range NT).filter fun t => Tryd.prog.rowNamed t [101, 114, 114, 111, 114]) = [42] := by kernel_rfl
theorem ety_of_handles {L : List (String × DataW Unit)} {W : World} (h : handlesMet Tryd.prog L W) (hm : ("errors.errorType", (Rows.laid_errors_errorType : DataW Unit)) ∈ L) : Ety W := by
  obtain ⟨name, u, ty, e1, e2, e3, e4, e5⟩ := h _ hm
  have en : name = [101, 114, 114, 111, 114] := (Option.some.inj e1).symm
  subst en
  obtain rfl := Option.some.inj (rtRow.symm.trans e2)
  have hm : ty ∈ (List.range NT).filter fun t => Tryd.prog.rowNamed t [101, 114, 114, 111, 114] := List.mem_filter.2 ⟨List.mem_range.2 (by rw [← ntypes]; exact e3), e4⟩
  rw [oneRow] at hm
  obtain rfl := List.mem_singleton.1 hm
  have hh : typeHandle Tryd.prog 42 = .pointer (some ⟨1, 42, none⟩) := by kernel_rfl
  rw [hh] at e5
  unfold Ety
  simpa using World.var?_cell gEty e5 0

theorem ety_of_laidE {W : World} (h : laidMetH Tryd.prog laidE W) : Ety W := by
  have h' : laidMet Tryd.prog [] W ∧ handlesMet Tryd.prog laidE W := h
  exact ety_of_handles h'.2 (List.mem_singleton.2 rfl)

theorem door_metE (os : Os) (args : Array Value) : laidMetH Tryd.prog laidE ((World.doorLaid Tryd.prog 16 os).forCall (fun _ _ => 0) ⟨#[], args, []⟩).memory :=
  laidMetH_of_parts3 (fuel := 8) (laidMet_of_run' 8 (by kernel_rfl) (by kernel_rfl)) (by kernel_rfl) (by kernel_rfl)

end Go.Proofs.YtmbhnhfnimijcaaDoor.Le
