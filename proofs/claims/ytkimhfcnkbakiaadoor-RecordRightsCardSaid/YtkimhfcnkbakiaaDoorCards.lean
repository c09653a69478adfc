/-
  DERIVED. GIVEN WITH THE SEED: THE CARDS: each row of YtkimhfcnkbakiaaDoorRows.lean that lists a variable, with what it lists TIED to the program's text (the seventh form; the later family's looks); each row that meets fmt, with fmt's text TOLD by the authors' own Lean function (tested against real Go, not proved from fmt's source: count such statements apart). THE CARD IS WHAT COUNTS. Prove the row's statement (the work); the ties are given (YtkimhfcnkbakiaaDoorTie.lean); close each card by the builder's one call (the guide's Derived/Test/ToyasCard.lean, 'card_holds'). Laid BY PROGRAM, IN A SANDBOX (cutbox-door.mjs). By AI agents, Wed Nov 11 2026. No macro, syntax, notation, axiom, sorry.
-/
import Derived.Test.YtkimhfcnkbakiaaDoorRows
import GoSem.ClaimSeven
namespace Go.Proofs.YtkimhfcnkbakiaaDoor
namespace Rows

/-- THE TIED CARD OF 'isobarlaw05.RecordRights'. -/
def recordRightsCard : Claim7 := { stood := { row := recordRightsRow, standIns := [], harness := (true, "dc0b902be93156b0914f904287e5a9e6dc38c787ab50765c5fb363ac75b091bf"), looks := true }, kinds := [], alts := [], laidByText := true, laidKinds := [.handle, .data], laidTests := true, laidLooks := .later }
def RecordRightsCardSaid : Prop := Claim7.holds Tryd.pinned (.plain (OpenSpec.ofChange recordRightsSpec)) recordRightsCard

/-- THE TIED CARD OF 'isobarlaw05.RecordDecodes'. -/
def recordDecodesCard : Claim7 := { stood := { row := recordDecodesRow, standIns := [], harness := (true, "dc0b902be93156b0914f904287e5a9e6dc38c787ab50765c5fb363ac75b091bf"), looks := true }, kinds := [], alts := [], laidByText := true, laidKinds := [.handle, .data], laidTests := true, laidLooks := .later }
def RecordDecodesCardSaid : Prop := Claim7.holds Tryd.pinned (.plain (OpenSpec.ofChange recordDecodesSpec)) recordDecodesCard

/-- THE TIED CARD OF 'isobarlaw05.RecordBack'. -/
def recordBackCard : Claim7 := { stood := { row := recordBackRow, standIns := [], harness := (true, "dc0b902be93156b0914f904287e5a9e6dc38c787ab50765c5fb363ac75b091bf"), looks := true }, kinds := [], alts := [], laidByText := true, laidKinds := [.data], laidTests := true, laidLooks := .later }
def RecordBackCardSaid : Prop := Claim7.holds Tryd.pinned (.plain (OpenSpec.ofChange recordBackSpec)) recordBackCard

/-- THE TIED CARD OF 'isobarlaw05.RecordTurned'. -/
def recordTurnedCard : Claim7 := { stood := { row := recordTurnedRow, standIns := [], harness := (true, "dc0b902be93156b0914f904287e5a9e6dc38c787ab50765c5fb363ac75b091bf"), looks := true }, kinds := [], alts := [], laidByText := true, laidKinds := [.handle, .data], laidTests := true, laidLooks := .later }
def RecordTurnedCardSaid : Prop := Claim7.holds Tryd.pinned (.plain (OpenSpec.ofChange recordTurnedSpec)) recordTurnedCard

/-- THE TIED CARD OF 'isobarlaw05.RecordUnlike'. -/
def recordUnlikeCard : Claim7 := { stood := { row := recordUnlikeRow, standIns := [], harness := (true, "dc0b902be93156b0914f904287e5a9e6dc38c787ab50765c5fb363ac75b091bf"), looks := true }, kinds := [], alts := [], laidByText := true, laidKinds := [.data], laidTests := true, laidLooks := .later }
def RecordUnlikeCardSaid : Prop := Claim7.holds Tryd.pinned (.plain (OpenSpec.ofChange recordUnlikeSpec)) recordUnlikeCard

/-- THE TIED CARD OF 'isobarlaw05.RecordKinds'. -/
def recordKindsCard : Claim7 := { stood := { row := recordKindsRow, standIns := [], harness := (true, "dc0b902be93156b0914f904287e5a9e6dc38c787ab50765c5fb363ac75b091bf"), looks := true }, kinds := [], alts := [], laidByText := true, laidKinds := [.data], laidTests := true, laidLooks := .later }
def RecordKindsCardSaid : Prop := Claim7.holds Tryd.pinned (.plain (OpenSpec.ofChange recordKindsSpec)) recordKindsCard

/-- THE SECOND FORM's CARD OF 'isobarlaw05.RecordRights'. -/
def recordRightsUptoCard : Claim7 := { stood := { row := recordRightsUptoRow, standIns := [], harness := (true, "dc0b902be93156b0914f904287e5a9e6dc38c787ab50765c5fb363ac75b091bf"), looks := true }, kinds := [], alts := [], laidByText := true, laidKinds := [.handle, .data], laidTests := true, laidLooks := .later }
def RecordRightsUptoCardSaid : Prop := Claim7.holds Tryd.pinned (.plain (OpenSpec.upto recordRightsSpec)) recordRightsUptoCard

/-- THE SECOND FORM's CARD OF 'isobarlaw05.RecordDecodes'. -/
def recordDecodesUptoCard : Claim7 := { stood := { row := recordDecodesUptoRow, standIns := [], harness := (true, "dc0b902be93156b0914f904287e5a9e6dc38c787ab50765c5fb363ac75b091bf"), looks := true }, kinds := [], alts := [], laidByText := true, laidKinds := [.handle, .data], laidTests := true, laidLooks := .later }
def RecordDecodesUptoCardSaid : Prop := Claim7.holds Tryd.pinned (.plain (OpenSpec.upto recordDecodesSpec)) recordDecodesUptoCard

/-- THE SECOND FORM's CARD OF 'isobarlaw05.RecordBack'. -/
def recordBackUptoCard : Claim7 := { stood := { row := recordBackUptoRow, standIns := [], harness := (true, "dc0b902be93156b0914f904287e5a9e6dc38c787ab50765c5fb363ac75b091bf"), looks := true }, kinds := [], alts := [], laidByText := true, laidKinds := [.data], laidTests := true, laidLooks := .later }
def RecordBackUptoCardSaid : Prop := Claim7.holds Tryd.pinned (.plain (OpenSpec.upto recordBackSpec)) recordBackUptoCard

/-- THE SECOND FORM's CARD OF 'isobarlaw05.RecordTurned'. -/
def recordTurnedUptoCard : Claim7 := { stood := { row := recordTurnedUptoRow, standIns := [], harness := (true, "dc0b902be93156b0914f904287e5a9e6dc38c787ab50765c5fb363ac75b091bf"), looks := true }, kinds := [], alts := [], laidByText := true, laidKinds := [.handle, .data], laidTests := true, laidLooks := .later }
def RecordTurnedUptoCardSaid : Prop := Claim7.holds Tryd.pinned (.plain (OpenSpec.upto recordTurnedSpec)) recordTurnedUptoCard

/-- THE SECOND FORM's CARD OF 'isobarlaw05.RecordUnlike'. -/
def recordUnlikeUptoCard : Claim7 := { stood := { row := recordUnlikeUptoRow, standIns := [], harness := (true, "dc0b902be93156b0914f904287e5a9e6dc38c787ab50765c5fb363ac75b091bf"), looks := true }, kinds := [], alts := [], laidByText := true, laidKinds := [.data], laidTests := true, laidLooks := .later }
def RecordUnlikeUptoCardSaid : Prop := Claim7.holds Tryd.pinned (.plain (OpenSpec.upto recordUnlikeSpec)) recordUnlikeUptoCard

/-- THE SECOND FORM's CARD OF 'isobarlaw05.RecordKinds'. -/
def recordKindsUptoCard : Claim7 := { stood := { row := recordKindsUptoRow, standIns := [], harness := (true, "dc0b902be93156b0914f904287e5a9e6dc38c787ab50765c5fb363ac75b091bf"), looks := true }, kinds := [], alts := [], laidByText := true, laidKinds := [.data], laidTests := true, laidLooks := .later }
def RecordKindsUptoCardSaid : Prop := Claim7.holds Tryd.pinned (.plain (OpenSpec.upto recordKindsSpec)) recordKindsUptoCard
end Rows
end Go.Proofs.YtkimhfcnkbakiaaDoor
