/-
  From the row's condition on the listed variables to what the walks ask; the world of the program's own initialisers meets it. What the statements share.
-/
import Derived.Test.YtnmpckhlpkmojaaGreatDoorRows
import Derived.WalkKit
import Derived.ProofKit
import Derived.OpenShut
import Derived.ShutString
import Derived.ChangeOld
import Derived.Below
import Derived.LaidMore
import Derived.LaidHandle
import Derived.Stop.Joined
import Derived.Stop.LaidErr
import Derived.Lib.LaidTab
import Derived.Lib.SmallJoins
import Derived.Test.YtnmpckhlpkmojaaGreatDoorImD

namespace Go.Proofs.YtnmpckhlpkmojaaGreatDoor.Im
open Go.ChangeShapes Go.WideShapes Go.ChangeAt Go.RowKit Go.Deep
open Pk Sm Fa Rc

abbrev laidH : List (String × DataW Unit) := [("isobar/sum.halves", Rows.laid_isobar_sum_halves)]
abbrev laidE : List (String × DataW Unit) := [("errors.errorType", Rows.laid_errors_errorType)] /- 0 -/
abbrev laidB : List (String × DataW Unit) := /- 0 -/ [("errors.errorType", Rows.laid_errors_errorType), ("isobar/sum.halves", Rows.laid_isobar_sum_halves)]
theorem gHalves : Tryz.prog.globalNamed "isobar/sum.halves" = some 1 := by kernel_rfl
theorem tHalves : (Tryz.prog.globals[1]?).map (·.type) = some 173 := by kernel_rfl
theorem gEty : Tryz.prog.globalNamed "errors.errorType" = some 0 := by kernel_rfl
theorem rtRow : (Tryz.prog.cutTypes.find? (·.1 == "internal/reflectlite.rtype")).map (·.2) = some 161 := by kernel_rfl
def NT : Nat := 202 /- 0 -/
theorem ntypes : /- 0 -/ Tryz.prog.types.size = NT := by kernel_rfl
theorem oneRow : /- 0 -/ ((List.range NT).filter fun t => Tryz.prog.rowNamed t [101, 114, 114, 111, 114]) = [31] := by kernel_rfl

theorem tab_of_met {W : World} (h : laidMet Tryz.prog laidH W) : Tab W := by
  have ht : Lib.TabIs Tryz.prog W "isobar/sum.halves" .u32 (halves.map fun (n : Nat) => (n : Int)) := Lib.tabIs_of_head (rest := []) gHalves tHalves Tryz.underlying173 Tryz.underlying130 (by kernel_rfl) (by kernel_rfl) h
  intro j hj
  have := World.var?_cell gHalves ht j
  rw [this]
  have hj' : j < halves.length := hj
  simp [List.getD_eq_getElem?_getD, List.getElem?_eq_getElem hj']
theorem met_of_laidH {W : World} (h : laidMetH Tryz.prog laidH W) : Tab W := by
  rw [MakeChecks.laidMetH_plain _ _ _ (by kernel_rfl)] at h
  exact tab_of_met h

theorem ety_of_handles /- 0 -/ {L : List (String × DataW Unit)} {W : World} (h : handlesMet Tryz.prog L W) (hm : ("errors.errorType", (Rows.laid_errors_errorType : DataW Unit)) ∈ L) : Ety W := by
  obtain ⟨name, u, ty, e1, e2, e3, e4, e5⟩ := h _ hm
  have en : name = [101, 114, 114, 111, 114] := (Option.some.inj e1).symm
  subst en
  obtain rfl := Option.some.inj (rtRow.symm.trans e2)
  have hm : ty ∈ (List.range NT).filter fun t => Tryz.prog.rowNamed t [101, 114, 114, 111, 114] := List.mem_filter.2 ⟨List.mem_range.2 (by rw [← ntypes]; exact e3), e4⟩
  rw [oneRow] at hm
  obtain rfl := List.mem_singleton.1 hm
  have hh : typeHandle Tryz.prog 31 = .pointer (some ⟨2, 31, none⟩) := by kernel_rfl
  rw [hh] at e5
  unfold Ety
  simpa using World.var?_cell gEty e5 0
theorem met_of_laidB /- 0 -/ {W : World} (h : laidMetH Tryz.prog laidB W) : Tab W ∧ Ety W := by
  have h' : laidMet Tryz.prog laidH W ∧ handlesMet Tryz.prog laidE W := h
  exact ⟨tab_of_met h'.1, ety_of_handles h'.2 (List.mem_singleton.2 rfl)⟩

theorem door_metH (os : Os) (args : Array Value) : laidMetH Tryz.prog laidH ((World.doorLaid Tryz.prog 21 os).forCall (fun _ _ => 0) ⟨#[], args, []⟩).memory :=
  laidMetH_of_parts3 (fuel := 8) (laidMet_of_run' 8 (by kernel_rfl) (by kernel_rfl)) (by kernel_rfl) (by kernel_rfl)
theorem door_metB /- 0 -/ (os : Os) (args : Array Value) : laidMetH Tryz.prog laidB ((World.doorLaid Tryz.prog 21 os).forCall (fun _ _ => 0) ⟨#[], args, []⟩).memory :=
  laidMetH_of_parts3 (fuel := 8) (laidMet_of_run' 8 (by kernel_rfl) (by kernel_rfl)) (by kernel_rfl) (by kernel_rfl)

end Go.Proofs.YtnmpckhlpkmojaaGreatDoor.Im
