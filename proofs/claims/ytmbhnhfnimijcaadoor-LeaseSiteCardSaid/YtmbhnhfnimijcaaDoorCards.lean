/-
  DERIVED. GIVEN WITH THE SEED: THE CARDS: each row of YtmbhnhfnimijcaaDoorRows.lean that lists a variable, with what it lists TIED to the program's text (the seventh form; the later family's looks); each row that meets fmt, with fmt's text TOLD by the authors' own Lean function (tested against real Go, not proved from fmt's source: count such statements apart). THE CARD IS WHAT COUNTS. Prove the row's statement (the work); the ties are given (YtmbhnhfnimijcaaDoorTie.lean); close each card by the builder's one call (the guide's Derived/Test/ToyasCard.lean, 'card_holds'). Laid BY PROGRAM, IN A SANDBOX (cutbox-door.mjs). By AI agents, Wed Nov 11 2026. No macro, syntax, notation, axiom, sorry.
-/
import Derived.Test.YtmbhnhfnimijcaaDoorRows
import GoSem.ClaimSeven
namespace Go.Proofs.YtmbhnhfnimijcaaDoor
namespace Rows

/-- THE TIED CARD OF 'isobarlaw16.LeasePlays'. -/
def leasePlaysCard : Claim7 := { stood := { row := leasePlaysRow, standIns := [], harness := (true, "6efd678cb6d776705010b7843e14728b078d9a4e87cff9445d4dadeb355bda45"), looks := true }, kinds := [], alts := [], laidByText := true, laidKinds := [.handle], laidTests := true, laidLooks := .later }
def LeasePlaysCardSaid : Prop := Claim7.holds Tryd.pinned (.plain (OpenSpec.ofChange leasePlaysSpec)) leasePlaysCard

/-- THE TIED CARD OF 'isobarlaw16.LeaseOne'. -/
def leaseOneCard : Claim7 := { stood := { row := leaseOneRow, standIns := [], harness := (true, "6efd678cb6d776705010b7843e14728b078d9a4e87cff9445d4dadeb355bda45"), looks := true }, kinds := [], alts := [], laidByText := true, laidKinds := [.handle], laidTests := true, laidLooks := .later }
def LeaseOneCardSaid : Prop := Claim7.holds Tryd.pinned (.plain (OpenSpec.ofChange leaseOneSpec)) leaseOneCard

/-- THE TIED CARD OF 'isobarlaw16.LeaseWaits'. -/
def leaseWaitsCard : Claim7 := { stood := { row := leaseWaitsRow, standIns := [], harness := (true, "6efd678cb6d776705010b7843e14728b078d9a4e87cff9445d4dadeb355bda45"), looks := true }, kinds := [], alts := [], laidByText := true, laidKinds := [.handle], laidTests := true, laidLooks := .later }
def LeaseWaitsCardSaid : Prop := Claim7.holds Tryd.pinned (.plain (OpenSpec.ofChange leaseWaitsSpec)) leaseWaitsCard

/-- THE TIED CARD OF 'isobarlaw16.LeaseNil'. -/
def leaseNilCard : Claim7 := { stood := { row := leaseNilRow, standIns := [], harness := (true, "6efd678cb6d776705010b7843e14728b078d9a4e87cff9445d4dadeb355bda45"), looks := true }, kinds := [], alts := [], laidByText := true, laidKinds := [.handle], laidTests := true, laidLooks := .later }
def LeaseNilCardSaid : Prop := Claim7.holds Tryd.pinned (.plain (OpenSpec.ofChange leaseNilSpec)) leaseNilCard

/-- THE TIED CARD OF 'isobarlaw16.LeaseSite'. -/
def leaseSiteCard : Claim7 := { stood := { row := leaseSiteRow, standIns := [], harness := (true, "6efd678cb6d776705010b7843e14728b078d9a4e87cff9445d4dadeb355bda45"), looks := true }, kinds := [], alts := [], laidByText := true, laidKinds := [.handle], laidTests := true, laidLooks := .later }
def LeaseSiteCardSaid : Prop := Claim7.holds Tryd.pinned (.plain (OpenSpec.ofChange leaseSiteSpec)) leaseSiteCard

/-- THE TIED CARD OF 'isobarlaw16.LeaseBack'. -/
def leaseBackCard : Claim7 := { stood := { row := leaseBackRow, standIns := [], harness := (true, "6efd678cb6d776705010b7843e14728b078d9a4e87cff9445d4dadeb355bda45"), looks := true }, kinds := [], alts := [], laidByText := true, laidKinds := [.handle], laidTests := true, laidLooks := .later }
def LeaseBackCardSaid : Prop := Claim7.holds Tryd.pinned (.plain (OpenSpec.ofChange leaseBackSpec)) leaseBackCard

/-- THE SECOND FORM's CARD OF 'isobarlaw16.LeasePlays'. -/
def leasePlaysUptoCard : Claim7 := { stood := { row := leasePlaysUptoRow, standIns := [], harness := (true, "6efd678cb6d776705010b7843e14728b078d9a4e87cff9445d4dadeb355bda45"), looks := true }, kinds := [], alts := [], laidByText := true, laidKinds := [.handle], laidTests := true, laidLooks := .later }
def LeasePlaysUptoCardSaid : Prop := Claim7.holds Tryd.pinned (.plain (OpenSpec.upto leasePlaysSpec)) leasePlaysUptoCard

/-- THE SECOND FORM's CARD OF 'isobarlaw16.LeaseOne'. -/
def leaseOneUptoCard : Claim7 := { stood := { row := leaseOneUptoRow, standIns := [], harness := (true, "6efd678cb6d776705010b7843e14728b078d9a4e87cff9445d4dadeb355bda45"), looks := true }, kinds := [], alts := [], laidByText := true, laidKinds := [.handle], laidTests := true, laidLooks := .later }
def LeaseOneUptoCardSaid : Prop := Claim7.holds Tryd.pinned (.plain (OpenSpec.upto leaseOneSpec)) leaseOneUptoCard

/-- THE SECOND FORM's CARD OF 'isobarlaw16.LeaseWaits'. -/
def leaseWaitsUptoCard : Claim7 := { stood := { row := leaseWaitsUptoRow, standIns := [], harness := (true, "6efd678cb6d776705010b7843e14728b078d9a4e87cff9445d4dadeb355bda45"), looks := true }, kinds := [], alts := [], laidByText := true, laidKinds := [.handle], laidTests := true, laidLooks := .later }
def LeaseWaitsUptoCardSaid : Prop := Claim7.holds Tryd.pinned (.plain (OpenSpec.upto leaseWaitsSpec)) leaseWaitsUptoCard

/-- THE SECOND FORM's CARD OF 'isobarlaw16.LeaseNil'. -/
def leaseNilUptoCard : Claim7 := { stood := { row := leaseNilUptoRow, standIns := [], harness := (true, "6efd678cb6d776705010b7843e14728b078d9a4e87cff9445d4dadeb355bda45"), looks := true }, kinds := [], alts := [], laidByText := true, laidKinds := [.handle], laidTests := true, laidLooks := .later }
def LeaseNilUptoCardSaid : Prop := Claim7.holds Tryd.pinned (.plain (OpenSpec.upto leaseNilSpec)) leaseNilUptoCard

/-- THE SECOND FORM's CARD OF 'isobarlaw16.LeaseSite'. -/
def leaseSiteUptoCard : Claim7 := { stood := { row := leaseSiteUptoRow, standIns := [], harness := (true, "6efd678cb6d776705010b7843e14728b078d9a4e87cff9445d4dadeb355bda45"), looks := true }, kinds := [], alts := [], laidByText := true, laidKinds := [.handle], laidTests := true, laidLooks := .later }
def LeaseSiteUptoCardSaid : Prop := Claim7.holds Tryd.pinned (.plain (OpenSpec.upto leaseSiteSpec)) leaseSiteUptoCard

/-- THE SECOND FORM's CARD OF 'isobarlaw16.LeaseBack'. -/
def leaseBackUptoCard : Claim7 := { stood := { row := leaseBackUptoRow, standIns := [], harness := (true, "6efd678cb6d776705010b7843e14728b078d9a4e87cff9445d4dadeb355bda45"), looks := true }, kinds := [], alts := [], laidByText := true, laidKinds := [.handle], laidTests := true, laidLooks := .later }
def LeaseBackUptoCardSaid : Prop := Claim7.holds Tryd.pinned (.plain (OpenSpec.upto leaseBackSpec)) leaseBackUptoCard
end Rows
end Go.Proofs.YtmbhnhfnimijcaaDoor
