/-
  DERIVED. GIVEN WITH THE SEED: THE CARDS: each row of YthoflpjmdhabmaaDoorRows.lean that lists a variable, with what it lists TIED to the program's text (the seventh form; the later family's looks); each row that meets fmt, with fmt's text TOLD by the authors' own Lean function (tested against real Go, not proved from fmt's source: count such statements apart). THE CARD IS WHAT COUNTS. Prove the row's statement (the work); the ties are given (YthoflpjmdhabmaaDoorTie.lean); close each card by the builder's one call (the guide's Derived/Test/ToyasCard.lean, 'card_holds'). Laid BY PROGRAM, IN A SANDBOX (cutbox-door.mjs). By AI agents, Wed Nov 11 2026. No macro, syntax, notation, axiom, sorry.
-/
import Derived.Test.YthoflpjmdhabmaaDoorRows
import GoSem.ClaimSeven
namespace Go.Proofs.YthoflpjmdhabmaaDoor
namespace Rows

/-- THE TIED CARD OF 'isobarlaw15.MemberPlays'. -/
def memberPlaysCard : Claim7 := { stood := { row := memberPlaysRow, standIns := [], harness := (true, "1dccd1ffadc614ff36ea8cc61fbc5c1273c830cdb13f0c5972904c3328083df4"), looks := true }, kinds := [], alts := [], laidByText := true, laidKinds := [.handle], laidTests := true, laidLooks := .later }
def MemberPlaysCardSaid : Prop := Claim7.holds Tryd.pinned (.plain (OpenSpec.ofChange memberPlaysSpec)) memberPlaysCard

/-- THE TIED CARD OF 'isobarlaw15.MemberBytes'. -/
def memberBytesCard : Claim7 := { stood := { row := memberBytesRow, standIns := [], harness := (true, "1dccd1ffadc614ff36ea8cc61fbc5c1273c830cdb13f0c5972904c3328083df4"), looks := true }, kinds := [], alts := [], laidByText := true, laidKinds := [.handle], laidTests := true, laidLooks := .later }
def MemberBytesCardSaid : Prop := Claim7.holds Tryd.pinned (.plain (OpenSpec.ofChange memberBytesSpec)) memberBytesCard

/-- THE TIED CARD OF 'isobarlaw15.MemberNil'. -/
def memberNilCard : Claim7 := { stood := { row := memberNilRow, standIns := [], harness := (true, "1dccd1ffadc614ff36ea8cc61fbc5c1273c830cdb13f0c5972904c3328083df4"), looks := true }, kinds := [], alts := [], laidByText := true, laidKinds := [.handle], laidTests := true, laidLooks := .later }
def MemberNilCardSaid : Prop := Claim7.holds Tryd.pinned (.plain (OpenSpec.ofChange memberNilSpec)) memberNilCard

/-- THE TIED CARD OF 'isobarlaw15.MemberOrder'. -/
def memberOrderCard : Claim7 := { stood := { row := memberOrderRow, standIns := [], harness := (true, "1dccd1ffadc614ff36ea8cc61fbc5c1273c830cdb13f0c5972904c3328083df4"), looks := true }, kinds := [], alts := [], laidByText := true, laidKinds := [.handle], laidTests := true, laidLooks := .later }
def MemberOrderCardSaid : Prop := Claim7.holds Tryd.pinned (.plain (OpenSpec.ofChange memberOrderSpec)) memberOrderCard

/-- THE SECOND FORM's CARD OF 'isobarlaw15.MemberPlays'. -/
def memberPlaysUptoCard : Claim7 := { stood := { row := memberPlaysUptoRow, standIns := [], harness := (true, "1dccd1ffadc614ff36ea8cc61fbc5c1273c830cdb13f0c5972904c3328083df4"), looks := true }, kinds := [], alts := [], laidByText := true, laidKinds := [.handle], laidTests := true, laidLooks := .later }
def MemberPlaysUptoCardSaid : Prop := Claim7.holds Tryd.pinned (.plain (OpenSpec.upto memberPlaysSpec)) memberPlaysUptoCard

/-- THE SECOND FORM's CARD OF 'isobarlaw15.MemberBytes'. -/
def memberBytesUptoCard : Claim7 := { stood := { row := memberBytesUptoRow, standIns := [], harness := (true, "1dccd1ffadc614ff36ea8cc61fbc5c1273c830cdb13f0c5972904c3328083df4"), looks := true }, kinds := [], alts := [], laidByText := true, laidKinds := [.handle], laidTests := true, laidLooks := .later }
def MemberBytesUptoCardSaid : Prop := Claim7.holds Tryd.pinned (.plain (OpenSpec.upto memberBytesSpec)) memberBytesUptoCard

/-- THE SECOND FORM's CARD OF 'isobarlaw15.MemberNil'. -/
def memberNilUptoCard : Claim7 := { stood := { row := memberNilUptoRow, standIns := [], harness := (true, "1dccd1ffadc614ff36ea8cc61fbc5c1273c830cdb13f0c5972904c3328083df4"), looks := true }, kinds := [], alts := [], laidByText := true, laidKinds := [.handle], laidTests := true, laidLooks := .later }
def MemberNilUptoCardSaid : Prop := Claim7.holds Tryd.pinned (.plain (OpenSpec.upto memberNilSpec)) memberNilUptoCard

/-- THE SECOND FORM's CARD OF 'isobarlaw15.MemberOrder'. -/
def memberOrderUptoCard : Claim7 := { stood := { row := memberOrderUptoRow, standIns := [], harness := (true, "1dccd1ffadc614ff36ea8cc61fbc5c1273c830cdb13f0c5972904c3328083df4"), looks := true }, kinds := [], alts := [], laidByText := true, laidKinds := [.handle], laidTests := true, laidLooks := .later }
def MemberOrderUptoCardSaid : Prop := Claim7.holds Tryd.pinned (.plain (OpenSpec.upto memberOrderSpec)) memberOrderUptoCard
end Rows
end Go.Proofs.YthoflpjmdhabmaaDoor
