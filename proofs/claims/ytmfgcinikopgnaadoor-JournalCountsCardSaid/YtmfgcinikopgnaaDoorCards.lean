/-
  DERIVED. GIVEN WITH THE SEED: THE CARDS: each row of YtmfgcinikopgnaaDoorRows.lean that lists a variable, with what it lists TIED to the program's text (the seventh form; the later family's looks); each row that meets fmt, with fmt's text TOLD by the authors' own Lean function (tested against real Go, not proved from fmt's source: count such statements apart). THE CARD IS WHAT COUNTS. Prove the row's statement (the work); the ties are given (YtmfgcinikopgnaaDoorTie.lean); close each card by the builder's one call (the guide's Derived/Test/ToyasCard.lean, 'card_holds'). Laid BY PROGRAM, IN A SANDBOX (cutbox-door.mjs). By AI agents, Wed Nov 11 2026. No macro, syntax, notation, axiom, sorry.
-/
import Derived.Test.YtmfgcinikopgnaaDoorRows
import GoSem.ClaimSeven
namespace Go.Proofs.YtmfgcinikopgnaaDoor
namespace Rows

/-- THE TIED CARD OF 'isobarlaw06.JournalGaps'. -/
def journalGapsCard : Claim7 := { stood := { row := journalGapsRow, standIns := [], harness := (true, "720de3dc4220efc750b137d3349e65ad02f681ba709e81f6fea88df1b1a55994"), looks := true }, kinds := [], alts := [], laidByText := true, laidKinds := [.data], laidTests := true, laidLooks := .later }
def JournalGapsCardSaid : Prop := Claim7.holds Tryd.pinned (.plain (OpenSpec.ofChange journalGapsSpec)) journalGapsCard

/-- THE TIED CARD OF 'isobarlaw06.JournalLost'. -/
def journalLostCard : Claim7 := { stood := { row := journalLostRow, standIns := [], harness := (true, "720de3dc4220efc750b137d3349e65ad02f681ba709e81f6fea88df1b1a55994"), looks := true }, kinds := [], alts := [], laidByText := true, laidKinds := [.data], laidTests := true, laidLooks := .later }
def JournalLostCardSaid : Prop := Claim7.holds Tryd.pinned (.plain (OpenSpec.ofChange journalLostSpec)) journalLostCard

/-- THE TIED CARD OF 'isobarlaw06.JournalNil'. -/
def journalNilCard : Claim7 := { stood := { row := journalNilRow, standIns := [], harness := (true, "720de3dc4220efc750b137d3349e65ad02f681ba709e81f6fea88df1b1a55994"), looks := true }, kinds := [], alts := [], laidByText := true, laidKinds := [.handle, .data], laidTests := true, laidLooks := .later }
def JournalNilCardSaid : Prop := Claim7.holds Tryd.pinned (.plain (OpenSpec.ofChange journalNilSpec)) journalNilCard

/-- THE TIED CARD OF 'isobarlaw06.JournalCounts'. -/
def journalCountsCard : Claim7 := { stood := { row := journalCountsRow, standIns := [], harness := (true, "720de3dc4220efc750b137d3349e65ad02f681ba709e81f6fea88df1b1a55994"), looks := true }, kinds := [], alts := [], laidByText := true, laidKinds := [.data], laidTests := true, laidLooks := .later }
def JournalCountsCardSaid : Prop := Claim7.holds Tryd.pinned (.plain (OpenSpec.ofChange journalCountsSpec)) journalCountsCard

/-- THE TIED CARD OF 'isobarlaw06.JournalAgain'. -/
def journalAgainCard : Claim7 := { stood := { row := journalAgainRow, standIns := [], harness := (true, "720de3dc4220efc750b137d3349e65ad02f681ba709e81f6fea88df1b1a55994"), looks := true }, kinds := [], alts := [], laidByText := true, laidKinds := [.data], laidTests := true, laidLooks := .later }
def JournalAgainCardSaid : Prop := Claim7.holds Tryd.pinned (.plain (OpenSpec.ofChange journalAgainSpec)) journalAgainCard

/-- THE SECOND FORM's CARD OF 'isobarlaw06.JournalGaps'. -/
def journalGapsUptoCard : Claim7 := { stood := { row := journalGapsUptoRow, standIns := [], harness := (true, "720de3dc4220efc750b137d3349e65ad02f681ba709e81f6fea88df1b1a55994"), looks := true }, kinds := [], alts := [], laidByText := true, laidKinds := [.data], laidTests := true, laidLooks := .later }
def JournalGapsUptoCardSaid : Prop := Claim7.holds Tryd.pinned (.plain (OpenSpec.upto journalGapsSpec)) journalGapsUptoCard

/-- THE SECOND FORM's CARD OF 'isobarlaw06.JournalLost'. -/
def journalLostUptoCard : Claim7 := { stood := { row := journalLostUptoRow, standIns := [], harness := (true, "720de3dc4220efc750b137d3349e65ad02f681ba709e81f6fea88df1b1a55994"), looks := true }, kinds := [], alts := [], laidByText := true, laidKinds := [.data], laidTests := true, laidLooks := .later }
def JournalLostUptoCardSaid : Prop := Claim7.holds Tryd.pinned (.plain (OpenSpec.upto journalLostSpec)) journalLostUptoCard

/-- THE SECOND FORM's CARD OF 'isobarlaw06.JournalNil'. -/
def journalNilUptoCard : Claim7 := { stood := { row := journalNilUptoRow, standIns := [], harness := (true, "720de3dc4220efc750b137d3349e65ad02f681ba709e81f6fea88df1b1a55994"), looks := true }, kinds := [], alts := [], laidByText := true, laidKinds := [.handle, .data], laidTests := true, laidLooks := .later }
def JournalNilUptoCardSaid : Prop := Claim7.holds Tryd.pinned (.plain (OpenSpec.upto journalNilSpec)) journalNilUptoCard

/-- THE SECOND FORM's CARD OF 'isobarlaw06.JournalCounts'. -/
def journalCountsUptoCard : Claim7 := { stood := { row := journalCountsUptoRow, standIns := [], harness := (true, "720de3dc4220efc750b137d3349e65ad02f681ba709e81f6fea88df1b1a55994"), looks := true }, kinds := [], alts := [], laidByText := true, laidKinds := [.data], laidTests := true, laidLooks := .later }
def JournalCountsUptoCardSaid : Prop := Claim7.holds Tryd.pinned (.plain (OpenSpec.upto journalCountsSpec)) journalCountsUptoCard

/-- THE SECOND FORM's CARD OF 'isobarlaw06.JournalAgain'. -/
def journalAgainUptoCard : Claim7 := { stood := { row := journalAgainUptoRow, standIns := [], harness := (true, "720de3dc4220efc750b137d3349e65ad02f681ba709e81f6fea88df1b1a55994"), looks := true }, kinds := [], alts := [], laidByText := true, laidKinds := [.data], laidTests := true, laidLooks := .later }
def JournalAgainUptoCardSaid : Prop := Claim7.holds Tryd.pinned (.plain (OpenSpec.upto journalAgainSpec)) journalAgainUptoCard
end Rows
end Go.Proofs.YtmfgcinikopgnaaDoor
