/-
  DERIVED. GIVEN WITH THE SEED: THE CARDS: each row of YtnmpckhlpkmojaaDoorRows.lean that lists a variable, with what it lists TIED to the program's text (the seventh form; the later family's looks); each row that meets fmt, with fmt's text TOLD by the authors' own Lean function (tested against real Go, not proved from fmt's source: count such statements apart). THE CARD IS WHAT COUNTS. Prove the row's statement (the work); the ties are given (YtnmpckhlpkmojaaDoorTie.lean); close each card by the builder's one call (the guide's Derived/Test/ToyasCard.lean, 'card_holds'). Laid BY PROGRAM, IN A SANDBOX (cutbox-door.mjs). By AI agents, Wed Nov 11 2026. No macro, syntax, notation, axiom, sorry.
-/
import Derived.Test.YtnmpckhlpkmojaaDoorRows
import GoSem.ClaimSeven
namespace Go.Proofs.YtnmpckhlpkmojaaDoor
namespace Rows

/-- THE TIED CARD OF 'isobarlaw14.ImageAtomic'. -/
def imageAtomicCard : Claim7 := { stood := { row := imageAtomicRow, standIns := [], harness := (true, "423f541e2a4db69676cf37f31a2c48bee77171c0c1d9035508e8623e72c0a3d3"), looks := true }, kinds := [], alts := [], laidByText := true, laidKinds := [.data], laidTests := true, laidLooks := .later }
def ImageAtomicCardSaid : Prop := Claim7.holds Tryd.pinned (.plain (OpenSpec.ofChange imageAtomicSpec)) imageAtomicCard

/-- THE TIED CARD OF 'isobarlaw14.ImageNil'. -/
def imageNilCard : Claim7 := { stood := { row := imageNilRow, standIns := [], harness := (true, "423f541e2a4db69676cf37f31a2c48bee77171c0c1d9035508e8623e72c0a3d3"), looks := true }, kinds := [], alts := [], laidByText := true, laidKinds := [.handle, .data], laidTests := true, laidLooks := .later }
def ImageNilCardSaid : Prop := Claim7.holds Tryd.pinned (.plain (OpenSpec.ofChange imageNilSpec)) imageNilCard

/-- THE TIED CARD OF 'isobarlaw14.ImageSteps'. -/
def imageStepsCard : Claim7 := { stood := { row := imageStepsRow, standIns := [], harness := (true, "423f541e2a4db69676cf37f31a2c48bee77171c0c1d9035508e8623e72c0a3d3"), looks := true }, kinds := [], alts := [], laidByText := true, laidKinds := [.handle, .data], laidTests := true, laidLooks := .later }
def ImageStepsCardSaid : Prop := Claim7.holds Tryd.pinned (.plain (OpenSpec.ofChange imageStepsSpec)) imageStepsCard

/-- THE TIED CARD OF 'isobarlaw14.ImageTurns'. -/
def imageTurnsCard : Claim7 := { stood := { row := imageTurnsRow, standIns := [], harness := (true, "423f541e2a4db69676cf37f31a2c48bee77171c0c1d9035508e8623e72c0a3d3"), looks := true }, kinds := [], alts := [], laidByText := true, laidKinds := [.handle, .data], laidTests := true, laidLooks := .later }
def ImageTurnsCardSaid : Prop := Claim7.holds Tryd.pinned (.plain (OpenSpec.ofChange imageTurnsSpec)) imageTurnsCard

/-- THE SECOND FORM's CARD OF 'isobarlaw14.ImageAtomic'. -/
def imageAtomicUptoCard : Claim7 := { stood := { row := imageAtomicUptoRow, standIns := [], harness := (true, "423f541e2a4db69676cf37f31a2c48bee77171c0c1d9035508e8623e72c0a3d3"), looks := true }, kinds := [], alts := [], laidByText := true, laidKinds := [.data], laidTests := true, laidLooks := .later }
def ImageAtomicUptoCardSaid : Prop := Claim7.holds Tryd.pinned (.plain (OpenSpec.upto imageAtomicSpec)) imageAtomicUptoCard

/-- THE SECOND FORM's CARD OF 'isobarlaw14.ImageNil'. -/
def imageNilUptoCard : Claim7 := { stood := { row := imageNilUptoRow, standIns := [], harness := (true, "423f541e2a4db69676cf37f31a2c48bee77171c0c1d9035508e8623e72c0a3d3"), looks := true }, kinds := [], alts := [], laidByText := true, laidKinds := [.handle, .data], laidTests := true, laidLooks := .later }
def ImageNilUptoCardSaid : Prop := Claim7.holds Tryd.pinned (.plain (OpenSpec.upto imageNilSpec)) imageNilUptoCard

/-- THE SECOND FORM's CARD OF 'isobarlaw14.ImageSteps'. -/
def imageStepsUptoCard : Claim7 := { stood := { row := imageStepsUptoRow, standIns := [], harness := (true, "423f541e2a4db69676cf37f31a2c48bee77171c0c1d9035508e8623e72c0a3d3"), looks := true }, kinds := [], alts := [], laidByText := true, laidKinds := [.handle, .data], laidTests := true, laidLooks := .later }
def ImageStepsUptoCardSaid : Prop := Claim7.holds Tryd.pinned (.plain (OpenSpec.upto imageStepsSpec)) imageStepsUptoCard

/-- THE SECOND FORM's CARD OF 'isobarlaw14.ImageTurns'. -/
def imageTurnsUptoCard : Claim7 := { stood := { row := imageTurnsUptoRow, standIns := [], harness := (true, "423f541e2a4db69676cf37f31a2c48bee77171c0c1d9035508e8623e72c0a3d3"), looks := true }, kinds := [], alts := [], laidByText := true, laidKinds := [.handle, .data], laidTests := true, laidLooks := .later }
def ImageTurnsUptoCardSaid : Prop := Claim7.holds Tryd.pinned (.plain (OpenSpec.upto imageTurnsSpec)) imageTurnsUptoCard
end Rows
end Go.Proofs.YtnmpckhlpkmojaaDoor
