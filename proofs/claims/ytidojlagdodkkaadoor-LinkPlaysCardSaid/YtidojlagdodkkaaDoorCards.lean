/-
  DERIVED. GIVEN WITH THE SEED: THE CARDS: each row of YtidojlagdodkkaaDoorRows.lean that lists a variable, with what it lists TIED to the program's text (the seventh form; the later family's looks); each row that meets fmt, with fmt's text TOLD by the authors' own Lean function (tested against real Go, not proved from fmt's source: count such statements apart). THE CARD IS WHAT COUNTS. Prove the row's statement (the work); the ties are given (YtidojlagdodkkaaDoorTie.lean); close each card by the builder's one call (the guide's Derived/Test/ToyasCard.lean, 'card_holds'). Laid BY PROGRAM, IN A SANDBOX (cutbox-door.mjs). By AI agents, Wed Nov 11 2026. No macro, syntax, notation, axiom, sorry.
-/
import Derived.Test.YtidojlagdodkkaaDoorRows
import GoSem.ClaimSeven
namespace Go.Proofs.YtidojlagdodkkaaDoor
namespace Rows

/-- THE TIED CARD OF 'isobarlaw10.LinkPlays'. -/
def linkPlaysCard : Claim7 := { stood := { row := linkPlaysRow, standIns := [], harness := (true, "35e4ec9b7cadd2e265e35f9f2a786f0eb9272bc2a0e2b8eccc2cfb48dc85594d"), looks := true }, kinds := [], alts := [], laidByText := true, laidKinds := [.handle], laidTests := true, laidLooks := .later }
def LinkPlaysCardSaid : Prop := Claim7.holds Tryd.pinned (.plain (OpenSpec.ofChange linkPlaysSpec)) linkPlaysCard

/-- THE TIED CARD OF 'isobarlaw10.LinkOrder'. -/
def linkOrderCard : Claim7 := { stood := { row := linkOrderRow, standIns := [], harness := (true, "35e4ec9b7cadd2e265e35f9f2a786f0eb9272bc2a0e2b8eccc2cfb48dc85594d"), looks := true }, kinds := [], alts := [], laidByText := true, laidKinds := [.handle], laidTests := true, laidLooks := .later }
def LinkOrderCardSaid : Prop := Claim7.holds Tryd.pinned (.plain (OpenSpec.ofChange linkOrderSpec)) linkOrderCard

/-- THE TIED CARD OF 'isobarlaw10.LinkNil'. -/
def linkNilCard : Claim7 := { stood := { row := linkNilRow, standIns := [], harness := (true, "35e4ec9b7cadd2e265e35f9f2a786f0eb9272bc2a0e2b8eccc2cfb48dc85594d"), looks := true }, kinds := [], alts := [], laidByText := true, laidKinds := [.handle], laidTests := true, laidLooks := .later }
def LinkNilCardSaid : Prop := Claim7.holds Tryd.pinned (.plain (OpenSpec.ofChange linkNilSpec)) linkNilCard

/-- THE TIED CARD OF 'isobarlaw10.LinkCut'. -/
def linkCutCard : Claim7 := { stood := { row := linkCutRow, standIns := [], harness := (true, "35e4ec9b7cadd2e265e35f9f2a786f0eb9272bc2a0e2b8eccc2cfb48dc85594d"), looks := true }, kinds := [], alts := [], laidByText := true, laidKinds := [.handle], laidTests := true, laidLooks := .later }
def LinkCutCardSaid : Prop := Claim7.holds Tryd.pinned (.plain (OpenSpec.ofChange linkCutSpec)) linkCutCard

/-- THE SECOND FORM's CARD OF 'isobarlaw10.LinkPlays'. -/
def linkPlaysUptoCard : Claim7 := { stood := { row := linkPlaysUptoRow, standIns := [], harness := (true, "35e4ec9b7cadd2e265e35f9f2a786f0eb9272bc2a0e2b8eccc2cfb48dc85594d"), looks := true }, kinds := [], alts := [], laidByText := true, laidKinds := [.handle], laidTests := true, laidLooks := .later }
def LinkPlaysUptoCardSaid : Prop := Claim7.holds Tryd.pinned (.plain (OpenSpec.upto linkPlaysSpec)) linkPlaysUptoCard

/-- THE SECOND FORM's CARD OF 'isobarlaw10.LinkOrder'. -/
def linkOrderUptoCard : Claim7 := { stood := { row := linkOrderUptoRow, standIns := [], harness := (true, "35e4ec9b7cadd2e265e35f9f2a786f0eb9272bc2a0e2b8eccc2cfb48dc85594d"), looks := true }, kinds := [], alts := [], laidByText := true, laidKinds := [.handle], laidTests := true, laidLooks := .later }
def LinkOrderUptoCardSaid : Prop := Claim7.holds Tryd.pinned (.plain (OpenSpec.upto linkOrderSpec)) linkOrderUptoCard

/-- THE SECOND FORM's CARD OF 'isobarlaw10.LinkNil'. -/
def linkNilUptoCard : Claim7 := { stood := { row := linkNilUptoRow, standIns := [], harness := (true, "35e4ec9b7cadd2e265e35f9f2a786f0eb9272bc2a0e2b8eccc2cfb48dc85594d"), looks := true }, kinds := [], alts := [], laidByText := true, laidKinds := [.handle], laidTests := true, laidLooks := .later }
def LinkNilUptoCardSaid : Prop := Claim7.holds Tryd.pinned (.plain (OpenSpec.upto linkNilSpec)) linkNilUptoCard

/-- THE SECOND FORM's CARD OF 'isobarlaw10.LinkCut'. -/
def linkCutUptoCard : Claim7 := { stood := { row := linkCutUptoRow, standIns := [], harness := (true, "35e4ec9b7cadd2e265e35f9f2a786f0eb9272bc2a0e2b8eccc2cfb48dc85594d"), looks := true }, kinds := [], alts := [], laidByText := true, laidKinds := [.handle], laidTests := true, laidLooks := .later }
def LinkCutUptoCardSaid : Prop := Claim7.holds Tryd.pinned (.plain (OpenSpec.upto linkCutSpec)) linkCutUptoCard
end Rows
end Go.Proofs.YtidojlagdodkkaaDoor
