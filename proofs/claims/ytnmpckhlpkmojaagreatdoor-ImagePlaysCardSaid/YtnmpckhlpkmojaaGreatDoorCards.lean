/-
  DERIVED. GIVEN WITH THE SEED: THE CARDS: each row of YtnmpckhlpkmojaaGreatDoorRows.lean that lists a variable, with what it lists TIED to the program's text (the seventh form; the later family's looks); each row that meets fmt, with fmt's text TOLD by the authors' own Lean function (tested against real Go, not proved from fmt's source: count such statements apart). THE CARD IS WHAT COUNTS. Prove the row's statement (the work); the ties are given (YtnmpckhlpkmojaaGreatDoorTie.lean); close each card by the builder's one call (the guide's Derived/Test/ToyasCard.lean, 'card_holds'). Laid BY PROGRAM, IN A SANDBOX (cutbox-door.mjs). By AI agents, Wed Nov 11 2026. No macro, syntax, notation, axiom, sorry.
-/
import Derived.Test.YtnmpckhlpkmojaaGreatDoorRows
import GoSem.ClaimSeven
namespace Go.Proofs.YtnmpckhlpkmojaaGreatDoor
namespace Rows

/-- THE TIED CARD OF 'isobarlaw14.ImagePlays'. -/
def imagePlaysCard : Claim7 := { stood := { row := imagePlaysRow, standIns := [], harness := (true, "f5e9c141a739d6716e5848f2e0ebf7d96f2cf557df47158d149d00d703c9e5d8"), looks := true }, kinds := [], alts := [], laidByText := true, laidKinds := [.handle, .data], laidTests := true, laidLooks := .later }
def ImagePlaysCardSaid : Prop := Claim7.holds Tryz.pinned (.plain (OpenSpec.ofChange imagePlaysSpec)) imagePlaysCard

/-- THE TIED CARD OF 'isobarlaw14.ImageOpens'. -/
def imageOpensCard : Claim7 := { stood := { row := imageOpensRow, standIns := [], harness := (true, "f5e9c141a739d6716e5848f2e0ebf7d96f2cf557df47158d149d00d703c9e5d8"), looks := true }, kinds := [], alts := [], laidByText := true, laidKinds := [.handle, .data], laidTests := true, laidLooks := .later }
def ImageOpensCardSaid : Prop := Claim7.holds Tryz.pinned (.plain (OpenSpec.ofChange imageOpensSpec)) imageOpensCard

/-- THE SECOND FORM's CARD OF 'isobarlaw14.ImagePlays'. -/
def imagePlaysUptoCard : Claim7 := { stood := { row := imagePlaysUptoRow, standIns := [], harness := (true, "f5e9c141a739d6716e5848f2e0ebf7d96f2cf557df47158d149d00d703c9e5d8"), looks := true }, kinds := [], alts := [], laidByText := true, laidKinds := [.handle, .data], laidTests := true, laidLooks := .later }
def ImagePlaysUptoCardSaid : Prop := Claim7.holds Tryz.pinned (.plain (OpenSpec.upto imagePlaysSpec)) imagePlaysUptoCard

/-- THE SECOND FORM's CARD OF 'isobarlaw14.ImageOpens'. -/
def imageOpensUptoCard : Claim7 := { stood := { row := imageOpensUptoRow, standIns := [], harness := (true, "f5e9c141a739d6716e5848f2e0ebf7d96f2cf557df47158d149d00d703c9e5d8"), looks := true }, kinds := [], alts := [], laidByText := true, laidKinds := [.handle, .data], laidTests := true, laidLooks := .later }
def ImageOpensUptoCardSaid : Prop := Claim7.holds Tryz.pinned (.plain (OpenSpec.upto imageOpensSpec)) imageOpensUptoCard
end Rows
end Go.Proofs.YtnmpckhlpkmojaaGreatDoor
