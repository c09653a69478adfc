/-
  NARROWER THAN 'FOR EVERY INPUT', by the rows' own cells (each row's printed sentence says how): ImageAtomic: laid · ImageNil: laid · ImageSteps: laid · ImageTurns: laid.
  DERIVED. THE GIVEN ROWS OF THIS SEAT. 4 by the template 'for every input the law returns true; each argument reads behind the call as it read before'; 0 by the template 'total and deterministic' (their statements: YtnmpckhlpkmojaaDoorTotals.lean).
  GIVEN WITH THE SEED: the statements are not yours to turn. If you find one false, say at which input.
  Laid BY PROGRAM, IN A SANDBOX (cutbox-rows.mjs): the forced cells as the released guide's own fill.sh prints them over the translation 7637e91a8f67bf15… (all of the seat's roots in one cut). By AI agents, Wed Nov 11 2026. No macro, syntax, notation, axiom, sorry.
-/
import Derived.Test.YtnmpckhlpkmojaaDoorChecked
import GoSem.Claim
import GoSem.ClaimJoined
import GoSem.ClaimMapViews
import Derived.JoinedTies
import Derived.KernelRfl
namespace Go.Proofs.YtnmpckhlpkmojaaDoor
/- THE CELL 'sum', in the pinned program and in every row, IS THE sha256 OF THE DUMP (.gsa) THAT YtnmpckhlpkmojaaDoorProg.lean LOADS. Nothing in Lean hashes anything: it is a label: what it is worth is what the hold of that sum in a sandbox is worth. -/
noncomputable def Tryd.pinned : Pinned := { name := "ytnmpckhlpkmojaadoor", sum := "7637e91a8f67bf155a0d157645568175108e1be66797bc05ee65b6156a880713", checked := Tryd.checked }
namespace Rows
def none {H : Type} : Left H := { results := [], args := [] }

/- WHAT THE LISTED PACKAGE-LEVEL VARIABLES READ AS WHEN THE CALL BEGINS. Each datum BY PROGRAM (the guide's laid-datum.mjs) off the statement by which the dump's own 'gosem.cut.vars' lays the variable. In a bare row this is a premise. The card (YtnmpckhlpkmojaaDoorCards.lean) ties it to the program's text. -/
def laid_isobar_sum_halves {H : Type} : DataW H := .agg [.lit (.int .u32 0), .lit (.int .u32 274646895), .lit (.int .u32 549293790), .lit (.int .u32 820201905), .lit (.int .u32 1098587580), .lit (.int .u32 1361435347), .lit (.int .u32 1640403810), .lit (.int .u32 1905808397), .lit (.int .u32 2197175160), .lit (.int .u32 2460548119), .lit (.int .u32 2722870694), .lit (.int .u32 2987750089), .lit (.int .u32 3280807620), .lit (.int .u32 3553878443), .lit (.int .u32 3811616794), .lit (.int .u32 4084100981)]
def laid_errors_errorType {H : Type} : DataW H := .iface "internal/reflectlite.rtype" (.agg [.ptr (.lit (.string [101, 114, 114, 111, 114]))])

/-- 'isobarlaw14.ImageAtomic': WHATEVER THE INPUT: true; the input reads as it did. -/
def imageAtomicSpec : ChangeSpec := { name := "imageAtomic", fn := fun _ => fun
  | [d] => { results := [.lit (.bool true)], args := [d] }
  | _ => none }
def imageAtomicRow : OpenClaim := { program := "ytnmpckhlpkmojaadoor", sum := "7637e91a8f67bf155a0d157645568175108e1be66797bc05ee65b6156a880713", func := "isobar/isobarlaw14.ImageAtomic", spec := "imageAtomic", named := ["isobar/sum.halves"], apart := false, laid := [("isobar/sum.halves", laid_isobar_sum_halves)] }
def ImageAtomicSaid : Prop := imageAtomicRow.holds Tryd.pinned (OpenSpec.ofChange imageAtomicSpec)

/-- ITS FALSE NEIGHBOUR: 'it returns false'. Refute it at one input. -/
def imageAtomicWrong : ChangeSpec := { name := "imageAtomic", fn := fun _ => fun
  | [d] => { results := [.lit (.bool false)], args := [d] }
  | _ => none }
def ImageAtomicWrongFalsely : Prop := imageAtomicRow.holds Tryd.pinned (OpenSpec.ofChange imageAtomicWrong)

/-- 'isobarlaw14.ImageNil': WHATEVER THE INPUT: true; the input reads as it did. -/
def imageNilSpec : ChangeSpec := { name := "imageNil", fn := fun _ => fun
  | [d1, d2] => { results := [.lit (.bool true)], args := [d1, d2] }
  | _ => none }
def imageNilRow : OpenClaim := { program := "ytnmpckhlpkmojaadoor", sum := "7637e91a8f67bf155a0d157645568175108e1be66797bc05ee65b6156a880713", func := "isobar/isobarlaw14.ImageNil", spec := "imageNil", inPlace := ["internal/reflectlite.ValueOf", "(internal/reflectlite.Value).Type", "(internal/reflectlite.Value).IsNil", "internal/reflectlite.TypeOf", "(internal/reflectlite.Value).Elem", "(internal/reflectlite.Value).Set"], unfollowed := true, recurses := true, named := ["isobar/sum.halves", "errors.errorType"], apart := false, laid := [("errors.errorType", laid_errors_errorType), ("isobar/sum.halves", laid_isobar_sum_halves)] }
def ImageNilSaid : Prop := imageNilRow.holds Tryd.pinned (OpenSpec.ofChange imageNilSpec)

/-- ITS FALSE NEIGHBOUR: 'it returns false'. Refute it at one input. -/
def imageNilWrong : ChangeSpec := { name := "imageNil", fn := fun _ => fun
  | [d1, d2] => { results := [.lit (.bool false)], args := [d1, d2] }
  | _ => none }
def ImageNilWrongFalsely : Prop := imageNilRow.holds Tryd.pinned (OpenSpec.ofChange imageNilWrong)

/-- 'isobarlaw14.ImageSteps': WHATEVER THE INPUT: true; the input reads as it did. -/
def imageStepsSpec : ChangeSpec := { name := "imageSteps", fn := fun _ => fun
  | [d1, d2, d3] => { results := [.lit (.bool true)], args := [d1, d2, d3] }
  | _ => none }
def imageStepsRow : OpenClaim := { program := "ytnmpckhlpkmojaadoor", sum := "7637e91a8f67bf155a0d157645568175108e1be66797bc05ee65b6156a880713", func := "isobar/isobarlaw14.ImageSteps", spec := "imageSteps", inPlace := ["internal/reflectlite.ValueOf", "(internal/reflectlite.Value).Type", "(internal/reflectlite.Value).IsNil", "internal/reflectlite.TypeOf", "(internal/reflectlite.Value).Elem", "(internal/reflectlite.Value).Set"], unfollowed := true, recurses := true, named := ["isobar/sum.halves", "errors.errorType"], apart := false, laid := [("errors.errorType", laid_errors_errorType), ("isobar/sum.halves", laid_isobar_sum_halves)] }
def ImageStepsSaid : Prop := imageStepsRow.holds Tryd.pinned (OpenSpec.ofChange imageStepsSpec)

/-- ITS FALSE NEIGHBOUR: 'it returns false'. Refute it at one input. -/
def imageStepsWrong : ChangeSpec := { name := "imageSteps", fn := fun _ => fun
  | [d1, d2, d3] => { results := [.lit (.bool false)], args := [d1, d2, d3] }
  | _ => none }
def ImageStepsWrongFalsely : Prop := imageStepsRow.holds Tryd.pinned (OpenSpec.ofChange imageStepsWrong)

/-- 'isobarlaw14.ImageTurns': WHATEVER THE INPUT: true; the input reads as it did. -/
def imageTurnsSpec : ChangeSpec := { name := "imageTurns", fn := fun _ => fun
  | [d] => { results := [.lit (.bool true)], args := [d] }
  | _ => none }
def imageTurnsRow : OpenClaim := { program := "ytnmpckhlpkmojaadoor", sum := "7637e91a8f67bf155a0d157645568175108e1be66797bc05ee65b6156a880713", func := "isobar/isobarlaw14.ImageTurns", spec := "imageTurns", inPlace := ["internal/reflectlite.ValueOf", "(internal/reflectlite.Value).Type", "(internal/reflectlite.Value).IsNil", "internal/reflectlite.TypeOf", "(internal/reflectlite.Value).Elem", "(internal/reflectlite.Value).Set"], unfollowed := true, recurses := true, named := ["isobar/sum.halves", "errors.errorType"], apart := false, laid := [("errors.errorType", laid_errors_errorType), ("isobar/sum.halves", laid_isobar_sum_halves)] }
def ImageTurnsSaid : Prop := imageTurnsRow.holds Tryd.pinned (OpenSpec.ofChange imageTurnsSpec)

/-- ITS FALSE NEIGHBOUR: 'it returns false'. Refute it at one input. -/
def imageTurnsWrong : ChangeSpec := { name := "imageTurns", fn := fun _ => fun
  | [d] => { results := [.lit (.bool false)], args := [d] }
  | _ => none }
def ImageTurnsWrongFalsely : Prop := imageTurnsRow.holds Tryd.pinned (OpenSpec.ofChange imageTurnsWrong)

/- THE SECOND FORM. 'bulk': how many values and letters a reading holds, each counted each time it is reached (what is shared counts as often as it is met; a slice's spare places count too). A statement '..UptoSaid' is the law's where the arguments, and the package variables that the reading takes, are together of bulk at most 1048576: NARROWER than '..Said'. Prove '..Said' where nothing that the law and all that it calls make is longer than what came in: it says more and counts as full. Else prove '..UptoSaid'. A law counts once. -/
mutual
def uptoBulk {H : Type} : DataW H → Nat
  | .lit (.string bytes) => bytes.length + 1
  | .lit _ => 1
  | .nil => 1
  | .ptr d => uptoBulk d + 1
  | .slice elems spare => uptoBulkAll elems + uptoBulkAll spare + 1
  | .agg parts => uptoBulkAll parts + 1
  | .iface _ d => uptoBulk d + 1
  | .map entries => uptoBulkEntries entries + 1
  | .held _ => 1
def uptoBulkAll {H : Type} : List (DataW H) → Nat
  | [] => 0
  | d :: r => uptoBulk d + uptoBulkAll r
def uptoBulkEntries {H : Type} : List (Lit × DataW H) → Nat
  | [] => 0
  | x :: r => uptoBulkEntry x + uptoBulkEntries r
def uptoBulkEntry {H : Type} : Lit × DataW H → Nat
  | (.string bytes, d) => bytes.length + uptoBulk d + 1
  | (_, d) => uptoBulk d + 1
 end
def uptoSmall : (H : Type) → List (DataW H) → Bool := fun _ ds => decide (uptoBulkAll ds ≤ 1048576)
def OpenSpec.upto (s : _root_.Go.ChangeSpec) : _root_.Go.OpenSpec := { _root_.Go.OpenSpec.ofChange s with cond := some uptoSmall }

/-- 'isobarlaw14.ImageAtomic', WHERE WHAT IT READS IS OF BULK AT MOST 1048576: true; the input reads as it did. -/
def imageAtomicUptoRow : OpenClaim := { program := "ytnmpckhlpkmojaadoor", sum := "7637e91a8f67bf155a0d157645568175108e1be66797bc05ee65b6156a880713", func := "isobar/isobarlaw14.ImageAtomic", spec := "imageAtomic", named := ["isobar/sum.halves"], apart := false, laid := [("isobar/sum.halves", laid_isobar_sum_halves)], narrowed := true }
def ImageAtomicUptoSaid : Prop := imageAtomicUptoRow.holds Tryd.pinned (OpenSpec.upto imageAtomicSpec)

/-- 'isobarlaw14.ImageNil', WHERE WHAT IT READS IS OF BULK AT MOST 1048576: true; the input reads as it did. -/
def imageNilUptoRow : OpenClaim := { program := "ytnmpckhlpkmojaadoor", sum := "7637e91a8f67bf155a0d157645568175108e1be66797bc05ee65b6156a880713", func := "isobar/isobarlaw14.ImageNil", spec := "imageNil", inPlace := ["internal/reflectlite.ValueOf", "(internal/reflectlite.Value).Type", "(internal/reflectlite.Value).IsNil", "internal/reflectlite.TypeOf", "(internal/reflectlite.Value).Elem", "(internal/reflectlite.Value).Set"], unfollowed := true, recurses := true, named := ["isobar/sum.halves", "errors.errorType"], apart := false, laid := [("errors.errorType", laid_errors_errorType), ("isobar/sum.halves", laid_isobar_sum_halves)], narrowed := true }
def ImageNilUptoSaid : Prop := imageNilUptoRow.holds Tryd.pinned (OpenSpec.upto imageNilSpec)

/-- 'isobarlaw14.ImageSteps', WHERE WHAT IT READS IS OF BULK AT MOST 1048576: true; the input reads as it did. -/
def imageStepsUptoRow : OpenClaim := { program := "ytnmpckhlpkmojaadoor", sum := "7637e91a8f67bf155a0d157645568175108e1be66797bc05ee65b6156a880713", func := "isobar/isobarlaw14.ImageSteps", spec := "imageSteps", inPlace := ["internal/reflectlite.ValueOf", "(internal/reflectlite.Value).Type", "(internal/reflectlite.Value).IsNil", "internal/reflectlite.TypeOf", "(internal/reflectlite.Value).Elem", "(internal/reflectlite.Value).Set"], unfollowed := true, recurses := true, named := ["isobar/sum.halves", "errors.errorType"], apart := false, laid := [("errors.errorType", laid_errors_errorType), ("isobar/sum.halves", laid_isobar_sum_halves)], narrowed := true }
def ImageStepsUptoSaid : Prop := imageStepsUptoRow.holds Tryd.pinned (OpenSpec.upto imageStepsSpec)

/-- 'isobarlaw14.ImageTurns', WHERE WHAT IT READS IS OF BULK AT MOST 1048576: true; the input reads as it did. -/
def imageTurnsUptoRow : OpenClaim := { program := "ytnmpckhlpkmojaadoor", sum := "7637e91a8f67bf155a0d157645568175108e1be66797bc05ee65b6156a880713", func := "isobar/isobarlaw14.ImageTurns", spec := "imageTurns", inPlace := ["internal/reflectlite.ValueOf", "(internal/reflectlite.Value).Type", "(internal/reflectlite.Value).IsNil", "internal/reflectlite.TypeOf", "(internal/reflectlite.Value).Elem", "(internal/reflectlite.Value).Set"], unfollowed := true, recurses := true, named := ["isobar/sum.halves", "errors.errorType"], apart := false, laid := [("errors.errorType", laid_errors_errorType), ("isobar/sum.halves", laid_isobar_sum_halves)], narrowed := true }
def ImageTurnsUptoSaid : Prop := imageTurnsUptoRow.holds Tryd.pinned (OpenSpec.upto imageTurnsSpec)

end Rows
end Go.Proofs.YtnmpckhlpkmojaaDoor
