/-
  DERIVED. GIVEN WITH THE SEED: THE CARDS: each row of YtjiihkpbeogbcaaDoorRows.lean that lists a variable, with what it lists TIED to the program's text (the seventh form; the later family's looks); each row that meets fmt, with fmt's text TOLD by the authors' own Lean function (tested against real Go, not proved from fmt's source: count such statements apart). THE CARD IS WHAT COUNTS. Prove the row's statement (the work); the ties are given (YtjiihkpbeogbcaaDoorTie.lean); close each card by the builder's one call (the guide's Derived/Test/ToyasCard.lean, 'card_holds'). Laid BY PROGRAM, IN A SANDBOX (cutbox-door.mjs). By AI agents, Wed Nov 11 2026. No macro, syntax, notation, axiom, sorry.
-/
import Derived.Test.YtjiihkpbeogbcaaDoorRows
import GoSem.ClaimSeven
namespace Go.Proofs.YtjiihkpbeogbcaaDoor
namespace Rows

/-- THE TIED CARD OF 'isobarlaw02.SumChecks'. -/
def sumChecksCard : Claim7 := { stood := { row := sumChecksRow, standIns := [], harness := (true, "cdf7d0251d4960ea3a0639d7def3b85de4aea0eab99bc2b7f3d555cb84fba016"), looks := false }, kinds := [], alts := [], laidByText := true, laidKinds := [.data], laidTests := true, laidLooks := .later }
def SumChecksCardSaid : Prop := Claim7.holds Tryd.pinned (.plain (OpenSpec.ofChange sumChecksSpec)) sumChecksCard

/-- THE TIED CARD OF 'isobarlaw02.SumOpens'. -/
def sumOpensCard : Claim7 := { stood := { row := sumOpensRow, standIns := [], harness := (true, "cdf7d0251d4960ea3a0639d7def3b85de4aea0eab99bc2b7f3d555cb84fba016"), looks := false }, kinds := [], alts := [], laidByText := true, laidKinds := [.data], laidTests := true, laidLooks := .later }
def SumOpensCardSaid : Prop := Claim7.holds Tryd.pinned (.plain (OpenSpec.ofChange sumOpensSpec)) sumOpensCard

/-- THE TIED CARD OF 'isobarlaw02.SumTurned'. -/
def sumTurnedCard : Claim7 := { stood := { row := sumTurnedRow, standIns := [], harness := (true, "cdf7d0251d4960ea3a0639d7def3b85de4aea0eab99bc2b7f3d555cb84fba016"), looks := false }, kinds := [], alts := [], laidByText := true, laidKinds := [.data], laidTests := true, laidLooks := .later }
def SumTurnedCardSaid : Prop := Claim7.holds Tryd.pinned (.plain (OpenSpec.ofChange sumTurnedSpec)) sumTurnedCard

/-- THE TIED CARD OF 'isobarlaw02.SumSectors'. -/
def sumSectorsCard : Claim7 := { stood := { row := sumSectorsRow, standIns := [], harness := (true, "cdf7d0251d4960ea3a0639d7def3b85de4aea0eab99bc2b7f3d555cb84fba016"), looks := false }, kinds := [], alts := [], laidByText := true, laidKinds := [.data], laidTests := true, laidLooks := .later }
def SumSectorsCardSaid : Prop := Claim7.holds Tryd.pinned (.plain (OpenSpec.ofChange sumSectorsSpec)) sumSectorsCard

/-- THE TIED CARD OF 'isobarlaw02.SumLinear'. -/
def sumLinearCard : Claim7 := { stood := { row := sumLinearRow, standIns := [], harness := (true, "cdf7d0251d4960ea3a0639d7def3b85de4aea0eab99bc2b7f3d555cb84fba016"), looks := false }, kinds := [], alts := [], laidByText := true, laidKinds := [.data], laidTests := true, laidLooks := .later }
def SumLinearCardSaid : Prop := Claim7.holds Tryd.pinned (.plain (OpenSpec.ofChange sumLinearSpec)) sumLinearCard

/-- THE TIED CARD OF 'isobarlaw02.SumShort'. -/
def sumShortCard : Claim7 := { stood := { row := sumShortRow, standIns := [], harness := (true, "cdf7d0251d4960ea3a0639d7def3b85de4aea0eab99bc2b7f3d555cb84fba016"), looks := false }, kinds := [], alts := [], laidByText := true, laidKinds := [.data], laidTests := true, laidLooks := .later }
def SumShortCardSaid : Prop := Claim7.holds Tryd.pinned (.plain (OpenSpec.ofChange sumShortSpec)) sumShortCard

/-- THE SECOND FORM's CARD OF 'isobarlaw02.SumChecks'. -/
def sumChecksUptoCard : Claim7 := { stood := { row := sumChecksUptoRow, standIns := [], harness := (true, "cdf7d0251d4960ea3a0639d7def3b85de4aea0eab99bc2b7f3d555cb84fba016"), looks := false }, kinds := [], alts := [], laidByText := true, laidKinds := [.data], laidTests := true, laidLooks := .later }
def SumChecksUptoCardSaid : Prop := Claim7.holds Tryd.pinned (.plain (OpenSpec.upto sumChecksSpec)) sumChecksUptoCard

/-- THE SECOND FORM's CARD OF 'isobarlaw02.SumOpens'. -/
def sumOpensUptoCard : Claim7 := { stood := { row := sumOpensUptoRow, standIns := [], harness := (true, "cdf7d0251d4960ea3a0639d7def3b85de4aea0eab99bc2b7f3d555cb84fba016"), looks := false }, kinds := [], alts := [], laidByText := true, laidKinds := [.data], laidTests := true, laidLooks := .later }
def SumOpensUptoCardSaid : Prop := Claim7.holds Tryd.pinned (.plain (OpenSpec.upto sumOpensSpec)) sumOpensUptoCard

/-- THE SECOND FORM's CARD OF 'isobarlaw02.SumTurned'. -/
def sumTurnedUptoCard : Claim7 := { stood := { row := sumTurnedUptoRow, standIns := [], harness := (true, "cdf7d0251d4960ea3a0639d7def3b85de4aea0eab99bc2b7f3d555cb84fba016"), looks := false }, kinds := [], alts := [], laidByText := true, laidKinds := [.data], laidTests := true, laidLooks := .later }
def SumTurnedUptoCardSaid : Prop := Claim7.holds Tryd.pinned (.plain (OpenSpec.upto sumTurnedSpec)) sumTurnedUptoCard

/-- THE SECOND FORM's CARD OF 'isobarlaw02.SumSectors'. -/
def sumSectorsUptoCard : Claim7 := { stood := { row := sumSectorsUptoRow, standIns := [], harness := (true, "cdf7d0251d4960ea3a0639d7def3b85de4aea0eab99bc2b7f3d555cb84fba016"), looks := false }, kinds := [], alts := [], laidByText := true, laidKinds := [.data], laidTests := true, laidLooks := .later }
def SumSectorsUptoCardSaid : Prop := Claim7.holds Tryd.pinned (.plain (OpenSpec.upto sumSectorsSpec)) sumSectorsUptoCard

/-- THE SECOND FORM's CARD OF 'isobarlaw02.SumLinear'. -/
def sumLinearUptoCard : Claim7 := { stood := { row := sumLinearUptoRow, standIns := [], harness := (true, "cdf7d0251d4960ea3a0639d7def3b85de4aea0eab99bc2b7f3d555cb84fba016"), looks := false }, kinds := [], alts := [], laidByText := true, laidKinds := [.data], laidTests := true, laidLooks := .later }
def SumLinearUptoCardSaid : Prop := Claim7.holds Tryd.pinned (.plain (OpenSpec.upto sumLinearSpec)) sumLinearUptoCard

/-- THE SECOND FORM's CARD OF 'isobarlaw02.SumShort'. -/
def sumShortUptoCard : Claim7 := { stood := { row := sumShortUptoRow, standIns := [], harness := (true, "cdf7d0251d4960ea3a0639d7def3b85de4aea0eab99bc2b7f3d555cb84fba016"), looks := false }, kinds := [], alts := [], laidByText := true, laidKinds := [.data], laidTests := true, laidLooks := .later }
def SumShortUptoCardSaid : Prop := Claim7.holds Tryd.pinned (.plain (OpenSpec.upto sumShortSpec)) sumShortUptoCard
end Rows
end Go.Proofs.YtjiihkpbeogbcaaDoor
