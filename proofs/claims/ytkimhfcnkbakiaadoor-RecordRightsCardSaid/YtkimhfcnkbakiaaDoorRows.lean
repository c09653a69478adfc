/-
  NARROWER THAN 'FOR EVERY INPUT', by the rows' own cells (each row's printed sentence says how): RecordRights: laid · RecordDecodes: laid · RecordBack: laid · RecordTurned: laid · RecordUnlike: laid · RecordKinds: laid.
  DERIVED. THE GIVEN ROWS OF THIS SEAT. 6 by the template 'for every input the law returns true; each argument reads behind the call as it read before'; 0 by the template 'total and deterministic' (their statements: YtkimhfcnkbakiaaDoorTotals.lean).
  GIVEN WITH THE SEED: the statements are not yours to turn. If you find one false, say at which input.
  Laid BY PROGRAM, IN A SANDBOX (cutbox-rows.mjs): the forced cells as the released guide's own fill.sh prints them over the translation 5a34e7e94ca483aa… (all of the seat's roots in one cut). By AI agents, Wed Nov 11 2026. No macro, syntax, notation, axiom, sorry.
-/
import Derived.Test.YtkimhfcnkbakiaaDoorChecked
import GoSem.Claim
import GoSem.ClaimJoined
import GoSem.ClaimMapViews
import Derived.JoinedTies
import Derived.KernelRfl
namespace Go.Proofs.YtkimhfcnkbakiaaDoor
/- THE CELL 'sum', in the pinned program and in every row, IS THE sha256 OF THE DUMP (.gsa) THAT YtkimhfcnkbakiaaDoorProg.lean LOADS. Nothing in Lean hashes anything: it is a label: what it is worth is what the hold of that sum in a sandbox is worth. -/
noncomputable def Tryd.pinned : Pinned := { name := "ytkimhfcnkbakiaadoor", sum := "5a34e7e94ca483aab75af319392f9ad40623d152fa39aba013a0b376817e0712", checked := Tryd.checked }
namespace Rows
def none {H : Type} : Left H := { results := [], args := [] }

/- WHAT THE LISTED PACKAGE-LEVEL VARIABLES READ AS WHEN THE CALL BEGINS. Each datum BY PROGRAM (the guide's laid-datum.mjs) off the statement by which the dump's own 'gosem.cut.vars' lays the variable. In a bare row this is a premise. The card (YtkimhfcnkbakiaaDoorCards.lean) ties it to the program's text. -/
def laid_errors_errorType {H : Type} : DataW H := .iface "internal/reflectlite.rtype" (.agg [.ptr (.lit (.string [101, 114, 114, 111, 114]))])
def laid_isobar_sum_halves {H : Type} : DataW H := .agg [.lit (.int .u32 0), .lit (.int .u32 274646895), .lit (.int .u32 549293790), .lit (.int .u32 820201905), .lit (.int .u32 1098587580), .lit (.int .u32 1361435347), .lit (.int .u32 1640403810), .lit (.int .u32 1905808397), .lit (.int .u32 2197175160), .lit (.int .u32 2460548119), .lit (.int .u32 2722870694), .lit (.int .u32 2987750089), .lit (.int .u32 3280807620), .lit (.int .u32 3553878443), .lit (.int .u32 3811616794), .lit (.int .u32 4084100981)]

/-- 'isobarlaw05.RecordRights': WHATEVER THE INPUT: true; the input reads as it did. -/
def recordRightsSpec : ChangeSpec := { name := "recordRights", fn := fun _ => fun
  | [d1, d2] => { results := [.lit (.bool true)], args := [d1, d2] }
  | _ => none }
def recordRightsRow : OpenClaim := { program := "ytkimhfcnkbakiaadoor", sum := "5a34e7e94ca483aab75af319392f9ad40623d152fa39aba013a0b376817e0712", func := "isobar/isobarlaw05.RecordRights", spec := "recordRights", inPlace := ["internal/reflectlite.ValueOf", "(internal/reflectlite.Value).Type", "(internal/reflectlite.Value).IsNil", "internal/reflectlite.TypeOf", "(internal/reflectlite.Value).Elem", "(internal/reflectlite.Value).Set"], unfollowed := true, recurses := true, named := ["isobar/sum.halves", "errors.errorType"], apart := false, laid := [("errors.errorType", laid_errors_errorType), ("isobar/sum.halves", laid_isobar_sum_halves)] }
def RecordRightsSaid : Prop := recordRightsRow.holds Tryd.pinned (OpenSpec.ofChange recordRightsSpec)

/-- ITS FALSE NEIGHBOUR: 'it returns false'. Refute it at one input. -/
def recordRightsWrong : ChangeSpec := { name := "recordRights", fn := fun _ => fun
  | [d1, d2] => { results := [.lit (.bool false)], args := [d1, d2] }
  | _ => none }
def RecordRightsWrongFalsely : Prop := recordRightsRow.holds Tryd.pinned (OpenSpec.ofChange recordRightsWrong)

/-- 'isobarlaw05.RecordDecodes': WHATEVER THE INPUT: true; the input reads as it did. -/
def recordDecodesSpec : ChangeSpec := { name := "recordDecodes", fn := fun _ => fun
  | [d] => { results := [.lit (.bool true)], args := [d] }
  | _ => none }
def recordDecodesRow : OpenClaim := { program := "ytkimhfcnkbakiaadoor", sum := "5a34e7e94ca483aab75af319392f9ad40623d152fa39aba013a0b376817e0712", func := "isobar/isobarlaw05.RecordDecodes", spec := "recordDecodes", inPlace := ["internal/reflectlite.ValueOf", "(internal/reflectlite.Value).Type", "(internal/reflectlite.Value).IsNil", "internal/reflectlite.TypeOf", "(internal/reflectlite.Value).Elem", "(internal/reflectlite.Value).Set"], unfollowed := true, recurses := true, named := ["isobar/sum.halves", "errors.errorType"], apart := false, laid := [("errors.errorType", laid_errors_errorType), ("isobar/sum.halves", laid_isobar_sum_halves)] }
def RecordDecodesSaid : Prop := recordDecodesRow.holds Tryd.pinned (OpenSpec.ofChange recordDecodesSpec)

/-- ITS FALSE NEIGHBOUR: 'it returns false'. Refute it at one input. -/
def recordDecodesWrong : ChangeSpec := { name := "recordDecodes", fn := fun _ => fun
  | [d] => { results := [.lit (.bool false)], args := [d] }
  | _ => none }
def RecordDecodesWrongFalsely : Prop := recordDecodesRow.holds Tryd.pinned (OpenSpec.ofChange recordDecodesWrong)

/-- 'isobarlaw05.RecordBack': WHATEVER THE INPUT: true; the input reads as it did. -/
def recordBackSpec : ChangeSpec := { name := "recordBack", fn := fun _ => fun
  | [d1, d2, d3] => { results := [.lit (.bool true)], args := [d1, d2, d3] }
  | _ => none }
def recordBackRow : OpenClaim := { program := "ytkimhfcnkbakiaadoor", sum := "5a34e7e94ca483aab75af319392f9ad40623d152fa39aba013a0b376817e0712", func := "isobar/isobarlaw05.RecordBack", spec := "recordBack", named := ["isobar/sum.halves"], apart := false, laid := [("isobar/sum.halves", laid_isobar_sum_halves)] }
def RecordBackSaid : Prop := recordBackRow.holds Tryd.pinned (OpenSpec.ofChange recordBackSpec)

/-- ITS FALSE NEIGHBOUR: 'it returns false'. Refute it at one input. -/
def recordBackWrong : ChangeSpec := { name := "recordBack", fn := fun _ => fun
  | [d1, d2, d3] => { results := [.lit (.bool false)], args := [d1, d2, d3] }
  | _ => none }
def RecordBackWrongFalsely : Prop := recordBackRow.holds Tryd.pinned (OpenSpec.ofChange recordBackWrong)

/-- 'isobarlaw05.RecordTurned': WHATEVER THE INPUT: true; the input reads as it did. -/
def recordTurnedSpec : ChangeSpec := { name := "recordTurned", fn := fun _ => fun
  | [d1, d2, d3, d4] => { results := [.lit (.bool true)], args := [d1, d2, d3, d4] }
  | _ => none }
def recordTurnedRow : OpenClaim := { program := "ytkimhfcnkbakiaadoor", sum := "5a34e7e94ca483aab75af319392f9ad40623d152fa39aba013a0b376817e0712", func := "isobar/isobarlaw05.RecordTurned", spec := "recordTurned", inPlace := ["internal/reflectlite.ValueOf", "(internal/reflectlite.Value).Type", "(internal/reflectlite.Value).IsNil", "internal/reflectlite.TypeOf", "(internal/reflectlite.Value).Elem", "(internal/reflectlite.Value).Set"], unfollowed := true, recurses := true, named := ["isobar/sum.halves", "errors.errorType"], apart := false, laid := [("errors.errorType", laid_errors_errorType), ("isobar/sum.halves", laid_isobar_sum_halves)] }
def RecordTurnedSaid : Prop := recordTurnedRow.holds Tryd.pinned (OpenSpec.ofChange recordTurnedSpec)

/-- ITS FALSE NEIGHBOUR: 'it returns false'. Refute it at one input. -/
def recordTurnedWrong : ChangeSpec := { name := "recordTurned", fn := fun _ => fun
  | [d1, d2, d3, d4] => { results := [.lit (.bool false)], args := [d1, d2, d3, d4] }
  | _ => none }
def RecordTurnedWrongFalsely : Prop := recordTurnedRow.holds Tryd.pinned (OpenSpec.ofChange recordTurnedWrong)

/-- 'isobarlaw05.RecordUnlike': WHATEVER THE INPUT: true; the input reads as it did. -/
def recordUnlikeSpec : ChangeSpec := { name := "recordUnlike", fn := fun _ => fun
  | [d1, d2, d3, d4] => { results := [.lit (.bool true)], args := [d1, d2, d3, d4] }
  | _ => none }
def recordUnlikeRow : OpenClaim := { program := "ytkimhfcnkbakiaadoor", sum := "5a34e7e94ca483aab75af319392f9ad40623d152fa39aba013a0b376817e0712", func := "isobar/isobarlaw05.RecordUnlike", spec := "recordUnlike", named := ["isobar/sum.halves"], apart := false, laid := [("isobar/sum.halves", laid_isobar_sum_halves)] }
def RecordUnlikeSaid : Prop := recordUnlikeRow.holds Tryd.pinned (OpenSpec.ofChange recordUnlikeSpec)

/-- ITS FALSE NEIGHBOUR: 'it returns false'. Refute it at one input. -/
def recordUnlikeWrong : ChangeSpec := { name := "recordUnlike", fn := fun _ => fun
  | [d1, d2, d3, d4] => { results := [.lit (.bool false)], args := [d1, d2, d3, d4] }
  | _ => none }
def RecordUnlikeWrongFalsely : Prop := recordUnlikeRow.holds Tryd.pinned (OpenSpec.ofChange recordUnlikeWrong)

/-- 'isobarlaw05.RecordKinds': WHATEVER THE INPUT: true; the input reads as it did. -/
def recordKindsSpec : ChangeSpec := { name := "recordKinds", fn := fun _ => fun
  | [d1, d2, d3, d4, d5] => { results := [.lit (.bool true)], args := [d1, d2, d3, d4, d5] }
  | _ => none }
def recordKindsRow : OpenClaim := { program := "ytkimhfcnkbakiaadoor", sum := "5a34e7e94ca483aab75af319392f9ad40623d152fa39aba013a0b376817e0712", func := "isobar/isobarlaw05.RecordKinds", spec := "recordKinds", named := ["isobar/sum.halves"], apart := false, laid := [("isobar/sum.halves", laid_isobar_sum_halves)] }
def RecordKindsSaid : Prop := recordKindsRow.holds Tryd.pinned (OpenSpec.ofChange recordKindsSpec)

/-- ITS FALSE NEIGHBOUR: 'it returns false'. Refute it at one input. -/
def recordKindsWrong : ChangeSpec := { name := "recordKinds", fn := fun _ => fun
  | [d1, d2, d3, d4, d5] => { results := [.lit (.bool false)], args := [d1, d2, d3, d4, d5] }
  | _ => none }
def RecordKindsWrongFalsely : Prop := recordKindsRow.holds Tryd.pinned (OpenSpec.ofChange recordKindsWrong)

/- THE SECOND FORM. 'bulk': how many values and letters a reading holds, each counted each time it is reached (what is shared counts as often as it is met; a slice's spare places count too). A statement '..UptoSaid' is the law's where the arguments, and the package variables that the reading takes, are together of bulk at most 1048576: NARROWER than '..Said'. Prove '..Said' where nothing that the law and all that it calls make is longer than what came in: it says more and counts as full. Else prove '..UptoSaid'. A law counts once. -/
mutual
def uptoBulk {H : Type} : DataW H → Nat
  | .lit (.string bytes) => bytes.length + 1
  | .lit _ => 1
  | .nil => 1
  | .ptr d => uptoBulk d + 1
  | .slice elems spare => uptoBulkAll elems + uptoBulkAll spare + 1
  | .agg parts => uptoBulkAll parts + 1
  | .iface _ d => uptoBulk d + 1
  | .map entries => uptoBulkEntries entries + 1
  | .held _ => 1
def uptoBulkAll {H : Type} : List (DataW H) → Nat
  | [] => 0
  | d :: r => uptoBulk d + uptoBulkAll r
def uptoBulkEntries {H : Type} : List (Lit × DataW H) → Nat
  | [] => 0
  | x :: r => uptoBulkEntry x + uptoBulkEntries r
def uptoBulkEntry {H : Type} : Lit × DataW H → Nat
  | (.string bytes, d) => bytes.length + uptoBulk d + 1
  | (_, d) => uptoBulk d + 1
 end
def uptoSmall : (H : Type) → List (DataW H) → Bool := fun _ ds => decide (uptoBulkAll ds ≤ 1048576)
def OpenSpec.upto (s : _root_.Go.ChangeSpec) : _root_.Go.OpenSpec := { _root_.Go.OpenSpec.ofChange s with cond := some uptoSmall }

/-- 'isobarlaw05.RecordRights', WHERE WHAT IT READS IS OF BULK AT MOST 1048576: true; the input reads as it did. -/
def recordRightsUptoRow : OpenClaim := { program := "ytkimhfcnkbakiaadoor", sum := "5a34e7e94ca483aab75af319392f9ad40623d152fa39aba013a0b376817e0712", func := "isobar/isobarlaw05.RecordRights", spec := "recordRights", inPlace := ["internal/reflectlite.ValueOf", "(internal/reflectlite.Value).Type", "(internal/reflectlite.Value).IsNil", "internal/reflectlite.TypeOf", "(internal/reflectlite.Value).Elem", "(internal/reflectlite.Value).Set"], unfollowed := true, recurses := true, named := ["isobar/sum.halves", "errors.errorType"], apart := false, laid := [("errors.errorType", laid_errors_errorType), ("isobar/sum.halves", laid_isobar_sum_halves)], narrowed := true }
def RecordRightsUptoSaid : Prop := recordRightsUptoRow.holds Tryd.pinned (OpenSpec.upto recordRightsSpec)

/-- 'isobarlaw05.RecordDecodes', WHERE WHAT IT READS IS OF BULK AT MOST 1048576: true; the input reads as it did. -/
def recordDecodesUptoRow : OpenClaim := { program := "ytkimhfcnkbakiaadoor", sum := "5a34e7e94ca483aab75af319392f9ad40623d152fa39aba013a0b376817e0712", func := "isobar/isobarlaw05.RecordDecodes", spec := "recordDecodes", inPlace := ["internal/reflectlite.ValueOf", "(internal/reflectlite.Value).Type", "(internal/reflectlite.Value).IsNil", "internal/reflectlite.TypeOf", "(internal/reflectlite.Value).Elem", "(internal/reflectlite.Value).Set"], unfollowed := true, recurses := true, named := ["isobar/sum.halves", "errors.errorType"], apart := false, laid := [("errors.errorType", laid_errors_errorType), ("isobar/sum.halves", laid_isobar_sum_halves)], narrowed := true }
def RecordDecodesUptoSaid : Prop := recordDecodesUptoRow.holds Tryd.pinned (OpenSpec.upto recordDecodesSpec)

/-- 'isobarlaw05.RecordBack', WHERE WHAT IT READS IS OF BULK AT MOST 1048576: true; the input reads as it did. -/
def recordBackUptoRow : OpenClaim := { program := "ytkimhfcnkbakiaadoor", sum := "5a34e7e94ca483aab75af319392f9ad40623d152fa39aba013a0b376817e0712", func := "isobar/isobarlaw05.RecordBack", spec := "recordBack", named := ["isobar/sum.halves"], apart := false, laid := [("isobar/sum.halves", laid_isobar_sum_halves)], narrowed := true }
def RecordBackUptoSaid : Prop := recordBackUptoRow.holds Tryd.pinned (OpenSpec.upto recordBackSpec)

/-- 'isobarlaw05.RecordTurned', WHERE WHAT IT READS IS OF BULK AT MOST 1048576: true; the input reads as it did. -/
def recordTurnedUptoRow : OpenClaim := { program := "ytkimhfcnkbakiaadoor", sum := "5a34e7e94ca483aab75af319392f9ad40623d152fa39aba013a0b376817e0712", func := "isobar/isobarlaw05.RecordTurned", spec := "recordTurned", inPlace := ["internal/reflectlite.ValueOf", "(internal/reflectlite.Value).Type", "(internal/reflectlite.Value).IsNil", "internal/reflectlite.TypeOf", "(internal/reflectlite.Value).Elem", "(internal/reflectlite.Value).Set"], unfollowed := true, recurses := true, named := ["isobar/sum.halves", "errors.errorType"], apart := false, laid := [("errors.errorType", laid_errors_errorType), ("isobar/sum.halves", laid_isobar_sum_halves)], narrowed := true }
def RecordTurnedUptoSaid : Prop := recordTurnedUptoRow.holds Tryd.pinned (OpenSpec.upto recordTurnedSpec)

/-- 'isobarlaw05.RecordUnlike', WHERE WHAT IT READS IS OF BULK AT MOST 1048576: true; the input reads as it did. -/
def recordUnlikeUptoRow : OpenClaim := { program := "ytkimhfcnkbakiaadoor", sum := "5a34e7e94ca483aab75af319392f9ad40623d152fa39aba013a0b376817e0712", func := "isobar/isobarlaw05.RecordUnlike", spec := "recordUnlike", named := ["isobar/sum.halves"], apart := false, laid := [("isobar/sum.halves", laid_isobar_sum_halves)], narrowed := true }
def RecordUnlikeUptoSaid : Prop := recordUnlikeUptoRow.holds Tryd.pinned (OpenSpec.upto recordUnlikeSpec)

/-- 'isobarlaw05.RecordKinds', WHERE WHAT IT READS IS OF BULK AT MOST 1048576: true; the input reads as it did. -/
def recordKindsUptoRow : OpenClaim := { program := "ytkimhfcnkbakiaadoor", sum := "5a34e7e94ca483aab75af319392f9ad40623d152fa39aba013a0b376817e0712", func := "isobar/isobarlaw05.RecordKinds", spec := "recordKinds", named := ["isobar/sum.halves"], apart := false, laid := [("isobar/sum.halves", laid_isobar_sum_halves)], narrowed := true }
def RecordKindsUptoSaid : Prop := recordKindsUptoRow.holds Tryd.pinned (OpenSpec.upto recordKindsSpec)

end Rows
end Go.Proofs.YtkimhfcnkbakiaaDoor
