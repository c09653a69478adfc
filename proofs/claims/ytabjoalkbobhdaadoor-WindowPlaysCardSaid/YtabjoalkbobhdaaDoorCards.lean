/-
  DERIVED. GIVEN WITH THE SEED: THE CARDS: each row of YtabjoalkbobhdaaDoorRows.lean that lists a variable, with what it lists TIED to the program's text (the seventh form; the later family's looks); each row that meets fmt, with fmt's text TOLD by the authors' own Lean function (tested against real Go, not proved from fmt's source: count such statements apart). THE CARD IS WHAT COUNTS. Prove the row's statement (the work); the ties are given (YtabjoalkbobhdaaDoorTie.lean); close each card by the builder's one call (the guide's Derived/Test/ToyasCard.lean, 'card_holds'). Laid BY PROGRAM, IN A SANDBOX (cutbox-door.mjs). By AI agents, Wed Nov 11 2026. No macro, syntax, notation, axiom, sorry.
-/
import Derived.Test.YtabjoalkbobhdaaDoorRows
import GoSem.ClaimSeven
namespace Go.Proofs.YtabjoalkbobhdaaDoor
namespace Rows

/-- THE TIED CARD OF 'isobarlaw09.WindowPlays'. -/
def windowPlaysCard : Claim7 := { stood := { row := windowPlaysRow, standIns := [], harness := (true, "06f0ccd457af09a6b74051e951fdfd418fa639bdae08c82b4cf7ec4893b9b224"), looks := true }, kinds := [], alts := [], laidByText := true, laidKinds := [.handle], laidTests := true, laidLooks := .later }
def WindowPlaysCardSaid : Prop := Claim7.holds Tryd.pinned (.plain (OpenSpec.ofChange windowPlaysSpec)) windowPlaysCard

/-- THE TIED CARD OF 'isobarlaw09.WindowNil'. -/
def windowNilCard : Claim7 := { stood := { row := windowNilRow, standIns := [], harness := (true, "06f0ccd457af09a6b74051e951fdfd418fa639bdae08c82b4cf7ec4893b9b224"), looks := true }, kinds := [], alts := [], laidByText := true, laidKinds := [.handle], laidTests := true, laidLooks := .later }
def WindowNilCardSaid : Prop := Claim7.holds Tryd.pinned (.plain (OpenSpec.ofChange windowNilSpec)) windowNilCard

/-- THE SECOND FORM's CARD OF 'isobarlaw09.WindowPlays'. -/
def windowPlaysUptoCard : Claim7 := { stood := { row := windowPlaysUptoRow, standIns := [], harness := (true, "06f0ccd457af09a6b74051e951fdfd418fa639bdae08c82b4cf7ec4893b9b224"), looks := true }, kinds := [], alts := [], laidByText := true, laidKinds := [.handle], laidTests := true, laidLooks := .later }
def WindowPlaysUptoCardSaid : Prop := Claim7.holds Tryd.pinned (.plain (OpenSpec.upto windowPlaysSpec)) windowPlaysUptoCard

/-- THE SECOND FORM's CARD OF 'isobarlaw09.WindowNil'. -/
def windowNilUptoCard : Claim7 := { stood := { row := windowNilUptoRow, standIns := [], harness := (true, "06f0ccd457af09a6b74051e951fdfd418fa639bdae08c82b4cf7ec4893b9b224"), looks := true }, kinds := [], alts := [], laidByText := true, laidKinds := [.handle], laidTests := true, laidLooks := .later }
def WindowNilUptoCardSaid : Prop := Claim7.holds Tryd.pinned (.plain (OpenSpec.upto windowNilSpec)) windowNilUptoCard
end Rows
end Go.Proofs.YtabjoalkbobhdaaDoor
