/-
  DERIVED. GIVEN WITH THE SEED: THE CARDS: each row of YtjholhmgainbfaaDoorRows.lean that lists a variable, with what it lists TIED to the program's text (the seventh form; the later family's looks); each row that meets fmt, with fmt's text TOLD by the authors' own Lean function (tested against real Go, not proved from fmt's source: count such statements apart). THE CARD IS WHAT COUNTS. Prove the row's statement (the work); the ties are given (YtjholhmgainbfaaDoorTie.lean); close each card by the builder's one call (the guide's Derived/Test/ToyasCard.lean, 'card_holds'). Laid BY PROGRAM, IN A SANDBOX (cutbox-door.mjs). By AI agents, Wed Nov 11 2026. No macro, syntax, notation, axiom, sorry.
-/
import Derived.Test.YtjholhmgainbfaaDoorRows
import GoSem.ClaimSeven
namespace Go.Proofs.YtjholhmgainbfaaDoor
namespace Rows

/-- THE TIED CARD OF 'isobarlaw08.GatePlays'. -/
def gatePlaysCard : Claim7 := { stood := { row := gatePlaysRow, standIns := [], harness := (true, "5f0bff6db2b4be03e57387ae35680f20026dfee8c458513545358c1f430bbf5f"), looks := true }, kinds := [], alts := [], laidByText := true, laidKinds := [.handle], laidTests := true, laidLooks := .later }
def GatePlaysCardSaid : Prop := Claim7.holds Tryd.pinned (.plain (OpenSpec.ofChange gatePlaysSpec)) gatePlaysCard

/-- THE TIED CARD OF 'isobarlaw08.GateNil'. -/
def gateNilCard : Claim7 := { stood := { row := gateNilRow, standIns := [], harness := (true, "5f0bff6db2b4be03e57387ae35680f20026dfee8c458513545358c1f430bbf5f"), looks := true }, kinds := [], alts := [], laidByText := true, laidKinds := [.handle], laidTests := true, laidLooks := .later }
def GateNilCardSaid : Prop := Claim7.holds Tryd.pinned (.plain (OpenSpec.ofChange gateNilSpec)) gateNilCard

/-- THE TIED CARD OF 'isobarlaw08.GateOnce'. -/
def gateOnceCard : Claim7 := { stood := { row := gateOnceRow, standIns := [], harness := (true, "5f0bff6db2b4be03e57387ae35680f20026dfee8c458513545358c1f430bbf5f"), looks := true }, kinds := [], alts := [], laidByText := true, laidKinds := [.handle], laidTests := true, laidLooks := .later }
def GateOnceCardSaid : Prop := Claim7.holds Tryd.pinned (.plain (OpenSpec.ofChange gateOnceSpec)) gateOnceCard

/-- THE SECOND FORM's CARD OF 'isobarlaw08.GatePlays'. -/
def gatePlaysUptoCard : Claim7 := { stood := { row := gatePlaysUptoRow, standIns := [], harness := (true, "5f0bff6db2b4be03e57387ae35680f20026dfee8c458513545358c1f430bbf5f"), looks := true }, kinds := [], alts := [], laidByText := true, laidKinds := [.handle], laidTests := true, laidLooks := .later }
def GatePlaysUptoCardSaid : Prop := Claim7.holds Tryd.pinned (.plain (OpenSpec.upto gatePlaysSpec)) gatePlaysUptoCard

/-- THE SECOND FORM's CARD OF 'isobarlaw08.GateNil'. -/
def gateNilUptoCard : Claim7 := { stood := { row := gateNilUptoRow, standIns := [], harness := (true, "5f0bff6db2b4be03e57387ae35680f20026dfee8c458513545358c1f430bbf5f"), looks := true }, kinds := [], alts := [], laidByText := true, laidKinds := [.handle], laidTests := true, laidLooks := .later }
def GateNilUptoCardSaid : Prop := Claim7.holds Tryd.pinned (.plain (OpenSpec.upto gateNilSpec)) gateNilUptoCard

/-- THE SECOND FORM's CARD OF 'isobarlaw08.GateOnce'. -/
def gateOnceUptoCard : Claim7 := { stood := { row := gateOnceUptoRow, standIns := [], harness := (true, "5f0bff6db2b4be03e57387ae35680f20026dfee8c458513545358c1f430bbf5f"), looks := true }, kinds := [], alts := [], laidByText := true, laidKinds := [.handle], laidTests := true, laidLooks := .later }
def GateOnceUptoCardSaid : Prop := Claim7.holds Tryd.pinned (.plain (OpenSpec.upto gateOnceSpec)) gateOnceUptoCard
end Rows
end Go.Proofs.YtjholhmgainbfaaDoor
