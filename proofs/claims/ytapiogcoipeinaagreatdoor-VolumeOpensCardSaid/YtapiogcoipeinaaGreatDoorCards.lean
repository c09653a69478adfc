/-
  DERIVED. GIVEN WITH THE SEED: THE CARDS: each row of YtapiogcoipeinaaGreatDoorRows.lean that lists a variable, with what it lists TIED to the program's text (the seventh form; the later family's looks); each row that meets fmt, with fmt's text TOLD by the authors' own Lean function (tested against real Go, not proved from fmt's source: count such statements apart). THE CARD IS WHAT COUNTS. Prove the row's statement (the work); the ties are given (YtapiogcoipeinaaGreatDoorTie.lean); close each card by the builder's one call (the guide's Derived/Test/ToyasCard.lean, 'card_holds'). Laid BY PROGRAM, IN A SANDBOX (cutbox-door.mjs). By AI agents, Wed Nov 11 2026. No macro, syntax, notation, axiom, sorry.
-/
import Derived.Test.YtapiogcoipeinaaGreatDoorRows
import GoSem.ClaimSeven
namespace Go.Proofs.YtapiogcoipeinaaGreatDoor
namespace Rows

/-- THE TIED CARD OF 'isobarlaw11.VolumePlays'. -/
def volumePlaysCard : Claim7 := { stood := { row := volumePlaysRow, standIns := [], harness := (true, "33e5e1b150ee6ad9221ad290962fca89723b8b80746f3bc97cc3a162f1284325"), looks := true }, kinds := [], alts := [], laidByText := true, laidKinds := [.handle, .data], laidTests := true, laidLooks := .later }
def VolumePlaysCardSaid : Prop := Claim7.holds Tryz.pinned (.plain (OpenSpec.ofChange volumePlaysSpec)) volumePlaysCard

/-- THE TIED CARD OF 'isobarlaw11.VolumeOpens'. -/
def volumeOpensCard : Claim7 := { stood := { row := volumeOpensRow, standIns := [], harness := (true, "33e5e1b150ee6ad9221ad290962fca89723b8b80746f3bc97cc3a162f1284325"), looks := true }, kinds := [], alts := [], laidByText := true, laidKinds := [.handle, .data], laidTests := true, laidLooks := .later }
def VolumeOpensCardSaid : Prop := Claim7.holds Tryz.pinned (.plain (OpenSpec.ofChange volumeOpensSpec)) volumeOpensCard

/-- THE TIED CARD OF 'isobarlaw11.VolumeNil'. -/
def volumeNilCard : Claim7 := { stood := { row := volumeNilRow, standIns := [], harness := (true, "33e5e1b150ee6ad9221ad290962fca89723b8b80746f3bc97cc3a162f1284325"), looks := true }, kinds := [], alts := [], laidByText := true, laidKinds := [.handle, .data], laidTests := true, laidLooks := .later }
def VolumeNilCardSaid : Prop := Claim7.holds Tryz.pinned (.plain (OpenSpec.ofChange volumeNilSpec)) volumeNilCard

/-- THE SECOND FORM's CARD OF 'isobarlaw11.VolumePlays'. -/
def volumePlaysUptoCard : Claim7 := { stood := { row := volumePlaysUptoRow, standIns := [], harness := (true, "33e5e1b150ee6ad9221ad290962fca89723b8b80746f3bc97cc3a162f1284325"), looks := true }, kinds := [], alts := [], laidByText := true, laidKinds := [.handle, .data], laidTests := true, laidLooks := .later }
def VolumePlaysUptoCardSaid : Prop := Claim7.holds Tryz.pinned (.plain (OpenSpec.upto volumePlaysSpec)) volumePlaysUptoCard

/-- THE SECOND FORM's CARD OF 'isobarlaw11.VolumeOpens'. -/
def volumeOpensUptoCard : Claim7 := { stood := { row := volumeOpensUptoRow, standIns := [], harness := (true, "33e5e1b150ee6ad9221ad290962fca89723b8b80746f3bc97cc3a162f1284325"), looks := true }, kinds := [], alts := [], laidByText := true, laidKinds := [.handle, .data], laidTests := true, laidLooks := .later }
def VolumeOpensUptoCardSaid : Prop := Claim7.holds Tryz.pinned (.plain (OpenSpec.upto volumeOpensSpec)) volumeOpensUptoCard

/-- THE SECOND FORM's CARD OF 'isobarlaw11.VolumeNil'. -/
def volumeNilUptoCard : Claim7 := { stood := { row := volumeNilUptoRow, standIns := [], harness := (true, "33e5e1b150ee6ad9221ad290962fca89723b8b80746f3bc97cc3a162f1284325"), looks := true }, kinds := [], alts := [], laidByText := true, laidKinds := [.handle, .data], laidTests := true, laidLooks := .later }
def VolumeNilUptoCardSaid : Prop := Claim7.holds Tryz.pinned (.plain (OpenSpec.upto volumeNilSpec)) volumeNilUptoCard
end Rows
end Go.Proofs.YtapiogcoipeinaaGreatDoor
