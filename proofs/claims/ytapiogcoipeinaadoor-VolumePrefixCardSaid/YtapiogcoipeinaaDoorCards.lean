/-
  DERIVED. GIVEN WITH THE SEED: THE CARDS: each row of YtapiogcoipeinaaDoorRows.lean that lists a variable, with what it lists TIED to the program's text (the seventh form; the later family's looks); each row that meets fmt, with fmt's text TOLD by the authors' own Lean function (tested against real Go, not proved from fmt's source: count such statements apart). THE CARD IS WHAT COUNTS. Prove the row's statement (the work); the ties are given (YtapiogcoipeinaaDoorTie.lean); close each card by the builder's one call (the guide's Derived/Test/ToyasCard.lean, 'card_holds'). Laid BY PROGRAM, IN A SANDBOX (cutbox-door.mjs). By AI agents, Wed Nov 11 2026. No macro, syntax, notation, axiom, sorry.
-/
import Derived.Test.YtapiogcoipeinaaDoorRows
import GoSem.ClaimSeven
namespace Go.Proofs.YtapiogcoipeinaaDoor
namespace Rows

/-- THE TIED CARD OF 'isobarlaw11.VolumePrefix'. -/
def volumePrefixCard : Claim7 := { stood := { row := volumePrefixRow, standIns := [], harness := (true, "1289d272e080da6291a41c070b54ccd8761d8d28e424a33227fc4ea94b198367"), looks := true }, kinds := [], alts := [], laidByText := true, laidKinds := [.data], laidTests := true, laidLooks := .later }
def VolumePrefixCardSaid : Prop := Claim7.holds Tryd.pinned (.plain (OpenSpec.ofChange volumePrefixSpec)) volumePrefixCard

/-- THE TIED CARD OF 'isobarlaw11.VolumeMarks'. -/
def volumeMarksCard : Claim7 := { stood := { row := volumeMarksRow, standIns := [], harness := (true, "1289d272e080da6291a41c070b54ccd8761d8d28e424a33227fc4ea94b198367"), looks := true }, kinds := [], alts := [], laidByText := true, laidKinds := [.data], laidTests := true, laidLooks := .later }
def VolumeMarksCardSaid : Prop := Claim7.holds Tryd.pinned (.plain (OpenSpec.ofChange volumeMarksSpec)) volumeMarksCard

/-- THE SECOND FORM's CARD OF 'isobarlaw11.VolumePrefix'. -/
def volumePrefixUptoCard : Claim7 := { stood := { row := volumePrefixUptoRow, standIns := [], harness := (true, "1289d272e080da6291a41c070b54ccd8761d8d28e424a33227fc4ea94b198367"), looks := true }, kinds := [], alts := [], laidByText := true, laidKinds := [.data], laidTests := true, laidLooks := .later }
def VolumePrefixUptoCardSaid : Prop := Claim7.holds Tryd.pinned (.plain (OpenSpec.upto volumePrefixSpec)) volumePrefixUptoCard

/-- THE SECOND FORM's CARD OF 'isobarlaw11.VolumeMarks'. -/
def volumeMarksUptoCard : Claim7 := { stood := { row := volumeMarksUptoRow, standIns := [], harness := (true, "1289d272e080da6291a41c070b54ccd8761d8d28e424a33227fc4ea94b198367"), looks := true }, kinds := [], alts := [], laidByText := true, laidKinds := [.data], laidTests := true, laidLooks := .later }
def VolumeMarksUptoCardSaid : Prop := Claim7.holds Tryd.pinned (.plain (OpenSpec.upto volumeMarksSpec)) volumeMarksUptoCard
end Rows
end Go.Proofs.YtapiogcoipeinaaDoor
