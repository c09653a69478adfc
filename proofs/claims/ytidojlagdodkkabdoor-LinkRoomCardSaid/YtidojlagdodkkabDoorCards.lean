/-
  DERIVED. GIVEN WITH THE SEED: THE CARDS: each row of YtidojlagdodkkabDoorRows.lean that lists a variable, with what it lists TIED to the program's text (the seventh form; the later family's looks); each row that meets fmt, with fmt's text TOLD by the authors' own Lean function (tested against real Go, not proved from fmt's source: count such statements apart). THE CARD IS WHAT COUNTS. Prove the row's statement (the work); the ties are given (YtidojlagdodkkabDoorTie.lean); close each card by the builder's one call (the guide's Derived/Test/ToyasCard.lean, 'card_holds'). Laid BY PROGRAM, IN A SANDBOX (cutbox-door.mjs). By AI agents, Wed Nov 11 2026. No macro, syntax, notation, axiom, sorry.
-/
import Derived.Test.YtidojlagdodkkabDoorRows
import GoSem.ClaimSeven
namespace Go.Proofs.YtidojlagdodkkabDoor
namespace Rows

/-- THE TIED CARD OF 'isobarlaw10.LinkRoom'. -/
def linkRoomCard : Claim7 := { stood := { row := linkRoomRow, standIns := [], harness := (true, "7c2a7ac558c2947246b0dfdbe1a4e92a5ecc75d45d94bbe1c0fae3e3be7834bd"), looks := true }, kinds := [], alts := [], laidByText := true, laidKinds := [.handle], laidTests := true, laidLooks := .later }
def LinkRoomCardSaid : Prop := Claim7.holds Tryd.pinned (.plain (OpenSpec.ofChange linkRoomSpec)) linkRoomCard

/-- THE SECOND FORM's CARD OF 'isobarlaw10.LinkRoom'. -/
def linkRoomUptoCard : Claim7 := { stood := { row := linkRoomUptoRow, standIns := [], harness := (true, "7c2a7ac558c2947246b0dfdbe1a4e92a5ecc75d45d94bbe1c0fae3e3be7834bd"), looks := true }, kinds := [], alts := [], laidByText := true, laidKinds := [.handle], laidTests := true, laidLooks := .later }
def LinkRoomUptoCardSaid : Prop := Claim7.holds Tryd.pinned (.plain (OpenSpec.upto linkRoomSpec)) linkRoomUptoCard
end Rows
end Go.Proofs.YtidojlagdodkkabDoor
