/-
  DERIVED. GIVEN WITH THE SEED: THE CARDS: each row of YteneacmdfehfnaaDoorRows.lean that lists a variable, with what it lists TIED to the program's text (the seventh form; the later family's looks); each row that meets fmt, with fmt's text TOLD by the authors' own Lean function (tested against real Go, not proved from fmt's source: count such statements apart). THE CARD IS WHAT COUNTS. Prove the row's statement (the work); the ties are given (YteneacmdfehfnaaDoorTie.lean); close each card by the builder's one call (the guide's Derived/Test/ToyasCard.lean, 'card_holds'). Laid BY PROGRAM, IN A SANDBOX (cutbox-door.mjs). By AI agents, Wed Nov 11 2026. No macro, syntax, notation, axiom, sorry.
-/
import Derived.Test.YteneacmdfehfnaaDoorRows
import GoSem.ClaimSeven
namespace Go.Proofs.YteneacmdfehfnaaDoor
namespace Rows

/-- THE TIED CARD OF 'isobarlaw12.StagePlays'. -/
def stagePlaysCard : Claim7 := { stood := { row := stagePlaysRow, standIns := [], harness := (true, "6f58138ae3fac454b4dc6fc64f3938858303450b31c957a6bd40e9f9977087a9"), looks := true }, kinds := [], alts := [], laidByText := true, laidKinds := [.handle], laidTests := true, laidLooks := .later }
def StagePlaysCardSaid : Prop := Claim7.holds Tryd.pinned (.plain (OpenSpec.ofChange stagePlaysSpec)) stagePlaysCard

/-- THE TIED CARD OF 'isobarlaw12.StageNil'. -/
def stageNilCard : Claim7 := { stood := { row := stageNilRow, standIns := [], harness := (true, "6f58138ae3fac454b4dc6fc64f3938858303450b31c957a6bd40e9f9977087a9"), looks := true }, kinds := [], alts := [], laidByText := true, laidKinds := [.handle], laidTests := true, laidLooks := .later }
def StageNilCardSaid : Prop := Claim7.holds Tryd.pinned (.plain (OpenSpec.ofChange stageNilSpec)) stageNilCard

/-- THE SECOND FORM's CARD OF 'isobarlaw12.StagePlays'. -/
def stagePlaysUptoCard : Claim7 := { stood := { row := stagePlaysUptoRow, standIns := [], harness := (true, "6f58138ae3fac454b4dc6fc64f3938858303450b31c957a6bd40e9f9977087a9"), looks := true }, kinds := [], alts := [], laidByText := true, laidKinds := [.handle], laidTests := true, laidLooks := .later }
def StagePlaysUptoCardSaid : Prop := Claim7.holds Tryd.pinned (.plain (OpenSpec.upto stagePlaysSpec)) stagePlaysUptoCard

/-- THE SECOND FORM's CARD OF 'isobarlaw12.StageNil'. -/
def stageNilUptoCard : Claim7 := { stood := { row := stageNilUptoRow, standIns := [], harness := (true, "6f58138ae3fac454b4dc6fc64f3938858303450b31c957a6bd40e9f9977087a9"), looks := true }, kinds := [], alts := [], laidByText := true, laidKinds := [.handle], laidTests := true, laidLooks := .later }
def StageNilUptoCardSaid : Prop := Claim7.holds Tryd.pinned (.plain (OpenSpec.upto stageNilSpec)) stageNilUptoCard
end Rows
end Go.Proofs.YteneacmdfehfnaaDoor
