/-
  DERIVED. GIVEN WITH THE SEED: THE CARDS: each row of YtenenhhijkjjfaaDoorRows.lean that lists a variable, with what it lists TIED to the program's text (the seventh form; the later family's looks); each row that meets fmt, with fmt's text TOLD by the authors' own Lean function (tested against real Go, not proved from fmt's source: count such statements apart). THE CARD IS WHAT COUNTS. Prove the row's statement (the work); the ties are given (YtenenhhijkjjfaaDoorTie.lean); close each card by the builder's one call (the guide's Derived/Test/ToyasCard.lean, 'card_holds'). Laid BY PROGRAM, IN A SANDBOX (cutbox-door.mjs). By AI agents, Wed Nov 11 2026. No macro, syntax, notation, axiom, sorry.
-/
import Derived.Test.YtenenhhijkjjfaaDoorRows
import GoSem.ClaimSeven
namespace Go.Proofs.YtenenhhijkjjfaaDoor
namespace Rows

/-- THE TIED CARD OF 'isobarlaw13.MarksPlay'. -/
def marksPlayCard : Claim7 := { stood := { row := marksPlayRow, standIns := [], harness := (true, "06fc221a2db51b71b6a378aa489f95df3c71e9986ffd663cfc643ff51882fd6b"), looks := true }, kinds := [], alts := [], laidByText := true, laidKinds := [.handle], laidTests := true, laidLooks := .later }
def MarksPlayCardSaid : Prop := Claim7.holds Tryd.pinned (.plain (OpenSpec.ofChange marksPlaySpec)) marksPlayCard

/-- THE TIED CARD OF 'isobarlaw13.MarksNil'. -/
def marksNilCard : Claim7 := { stood := { row := marksNilRow, standIns := [], harness := (true, "06fc221a2db51b71b6a378aa489f95df3c71e9986ffd663cfc643ff51882fd6b"), looks := true }, kinds := [], alts := [], laidByText := true, laidKinds := [.handle], laidTests := true, laidLooks := .later }
def MarksNilCardSaid : Prop := Claim7.holds Tryd.pinned (.plain (OpenSpec.ofChange marksNilSpec)) marksNilCard

/-- THE SECOND FORM's CARD OF 'isobarlaw13.MarksPlay'. -/
def marksPlayUptoCard : Claim7 := { stood := { row := marksPlayUptoRow, standIns := [], harness := (true, "06fc221a2db51b71b6a378aa489f95df3c71e9986ffd663cfc643ff51882fd6b"), looks := true }, kinds := [], alts := [], laidByText := true, laidKinds := [.handle], laidTests := true, laidLooks := .later }
def MarksPlayUptoCardSaid : Prop := Claim7.holds Tryd.pinned (.plain (OpenSpec.upto marksPlaySpec)) marksPlayUptoCard

/-- THE SECOND FORM's CARD OF 'isobarlaw13.MarksNil'. -/
def marksNilUptoCard : Claim7 := { stood := { row := marksNilUptoRow, standIns := [], harness := (true, "06fc221a2db51b71b6a378aa489f95df3c71e9986ffd663cfc643ff51882fd6b"), looks := true }, kinds := [], alts := [], laidByText := true, laidKinds := [.handle], laidTests := true, laidLooks := .later }
def MarksNilUptoCardSaid : Prop := Claim7.holds Tryd.pinned (.plain (OpenSpec.upto marksNilSpec)) marksNilUptoCard
end Rows
end Go.Proofs.YtenenhhijkjjfaaDoor
