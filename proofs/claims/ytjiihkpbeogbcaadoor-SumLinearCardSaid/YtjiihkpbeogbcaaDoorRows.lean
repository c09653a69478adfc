/-
  NARROWER THAN 'FOR EVERY INPUT', by the rows' own cells (each row's printed sentence says how): SumChecks: laid · SumOpens: laid · SumTurned: laid · SumSectors: laid · SumLinear: laid · SumShort: laid.
  DERIVED. THE GIVEN ROWS OF THIS SEAT. 6 by the template 'for every input the law returns true; each argument reads behind the call as it read before'; 0 by the template 'total and deterministic' (their statements: YtjiihkpbeogbcaaDoorTotals.lean).
  GIVEN WITH THE SEED: the statements are not yours to turn. If you find one false, say at which input.
  Laid BY PROGRAM, IN A SANDBOX (cutbox-rows.mjs): the forced cells as the released guide's own fill.sh prints them over the translation eee392db6615252b… (all of the seat's roots in one cut). By AI agents, Wed Nov 11 2026. No macro, syntax, notation, axiom, sorry.
-/
import Derived.Test.YtjiihkpbeogbcaaDoorChecked
import GoSem.Claim
import GoSem.ClaimJoined
import GoSem.ClaimMapViews
import Derived.JoinedTies
import Derived.KernelRfl
namespace Go.Proofs.YtjiihkpbeogbcaaDoor
/- THE CELL 'sum', in the pinned program and in every row, IS THE sha256 OF THE DUMP (.gsa) THAT YtjiihkpbeogbcaaDoorProg.lean LOADS. Nothing in Lean hashes anything: it is a label: what it is worth is what the hold of that sum in a sandbox is worth. -/
noncomputable def Tryd.pinned : Pinned := { name := "ytjiihkpbeogbcaadoor", sum := "eee392db6615252b550e6f4adfb10de588cd476a5dd8bde5d41146317aceaed7", checked := Tryd.checked }
namespace Rows
def none {H : Type} : Left H := { results := [], args := [] }

/- WHAT THE LISTED PACKAGE-LEVEL VARIABLES READ AS WHEN THE CALL BEGINS. Each datum BY PROGRAM (the guide's laid-datum.mjs) off the statement by which the dump's own 'gosem.cut.vars' lays the variable. In a bare row this is a premise. The card (YtjiihkpbeogbcaaDoorCards.lean) ties it to the program's text. -/
def laid_isobar_sum_halves {H : Type} : DataW H := .agg [.lit (.int .u32 0), .lit (.int .u32 274646895), .lit (.int .u32 549293790), .lit (.int .u32 820201905), .lit (.int .u32 1098587580), .lit (.int .u32 1361435347), .lit (.int .u32 1640403810), .lit (.int .u32 1905808397), .lit (.int .u32 2197175160), .lit (.int .u32 2460548119), .lit (.int .u32 2722870694), .lit (.int .u32 2987750089), .lit (.int .u32 3280807620), .lit (.int .u32 3553878443), .lit (.int .u32 3811616794), .lit (.int .u32 4084100981)]

/-- 'isobarlaw02.SumChecks': WHATEVER THE INPUT: true; the input reads as it did. -/
def sumChecksSpec : ChangeSpec := { name := "sumChecks", fn := fun _ => fun
  | [d] => { results := [.lit (.bool true)], args := [d] }
  | _ => none }
def sumChecksRow : OpenClaim := { program := "ytjiihkpbeogbcaadoor", sum := "eee392db6615252b550e6f4adfb10de588cd476a5dd8bde5d41146317aceaed7", func := "isobar/isobarlaw02.SumChecks", spec := "sumChecks", named := ["isobar/sum.halves"], apart := false, laid := [("isobar/sum.halves", laid_isobar_sum_halves)] }
def SumChecksSaid : Prop := sumChecksRow.holds Tryd.pinned (OpenSpec.ofChange sumChecksSpec)

/-- ITS FALSE NEIGHBOUR: 'it returns false'. Refute it at one input. -/
def sumChecksWrong : ChangeSpec := { name := "sumChecks", fn := fun _ => fun
  | [d] => { results := [.lit (.bool false)], args := [d] }
  | _ => none }
def SumChecksWrongFalsely : Prop := sumChecksRow.holds Tryd.pinned (OpenSpec.ofChange sumChecksWrong)

/-- 'isobarlaw02.SumOpens': WHATEVER THE INPUT: true; the input reads as it did. -/
def sumOpensSpec : ChangeSpec := { name := "sumOpens", fn := fun _ => fun
  | [d1, d2] => { results := [.lit (.bool true)], args := [d1, d2] }
  | _ => none }
def sumOpensRow : OpenClaim := { program := "ytjiihkpbeogbcaadoor", sum := "eee392db6615252b550e6f4adfb10de588cd476a5dd8bde5d41146317aceaed7", func := "isobar/isobarlaw02.SumOpens", spec := "sumOpens", named := ["isobar/sum.halves"], apart := false, laid := [("isobar/sum.halves", laid_isobar_sum_halves)] }
def SumOpensSaid : Prop := sumOpensRow.holds Tryd.pinned (OpenSpec.ofChange sumOpensSpec)

/-- ITS FALSE NEIGHBOUR: 'it returns false'. Refute it at one input. -/
def sumOpensWrong : ChangeSpec := { name := "sumOpens", fn := fun _ => fun
  | [d1, d2] => { results := [.lit (.bool false)], args := [d1, d2] }
  | _ => none }
def SumOpensWrongFalsely : Prop := sumOpensRow.holds Tryd.pinned (OpenSpec.ofChange sumOpensWrong)

/-- 'isobarlaw02.SumTurned': WHATEVER THE INPUT: true; the input reads as it did. -/
def sumTurnedSpec : ChangeSpec := { name := "sumTurned", fn := fun _ => fun
  | [d1, d2, d3] => { results := [.lit (.bool true)], args := [d1, d2, d3] }
  | _ => none }
def sumTurnedRow : OpenClaim := { program := "ytjiihkpbeogbcaadoor", sum := "eee392db6615252b550e6f4adfb10de588cd476a5dd8bde5d41146317aceaed7", func := "isobar/isobarlaw02.SumTurned", spec := "sumTurned", named := ["isobar/sum.halves"], apart := false, laid := [("isobar/sum.halves", laid_isobar_sum_halves)] }
def SumTurnedSaid : Prop := sumTurnedRow.holds Tryd.pinned (OpenSpec.ofChange sumTurnedSpec)

/-- ITS FALSE NEIGHBOUR: 'it returns false'. Refute it at one input. -/
def sumTurnedWrong : ChangeSpec := { name := "sumTurned", fn := fun _ => fun
  | [d1, d2, d3] => { results := [.lit (.bool false)], args := [d1, d2, d3] }
  | _ => none }
def SumTurnedWrongFalsely : Prop := sumTurnedRow.holds Tryd.pinned (OpenSpec.ofChange sumTurnedWrong)

/-- 'isobarlaw02.SumSectors': WHATEVER THE INPUT: true; the input reads as it did. -/
def sumSectorsSpec : ChangeSpec := { name := "sumSectors", fn := fun _ => fun
  | [d1, d2] => { results := [.lit (.bool true)], args := [d1, d2] }
  | _ => none }
def sumSectorsRow : OpenClaim := { program := "ytjiihkpbeogbcaadoor", sum := "eee392db6615252b550e6f4adfb10de588cd476a5dd8bde5d41146317aceaed7", func := "isobar/isobarlaw02.SumSectors", spec := "sumSectors", named := ["isobar/sum.halves"], apart := false, laid := [("isobar/sum.halves", laid_isobar_sum_halves)] }
def SumSectorsSaid : Prop := sumSectorsRow.holds Tryd.pinned (OpenSpec.ofChange sumSectorsSpec)

/-- ITS FALSE NEIGHBOUR: 'it returns false'. Refute it at one input. -/
def sumSectorsWrong : ChangeSpec := { name := "sumSectors", fn := fun _ => fun
  | [d1, d2] => { results := [.lit (.bool false)], args := [d1, d2] }
  | _ => none }
def SumSectorsWrongFalsely : Prop := sumSectorsRow.holds Tryd.pinned (OpenSpec.ofChange sumSectorsWrong)

/-- 'isobarlaw02.SumLinear': WHATEVER THE INPUT: true; the input reads as it did. -/
def sumLinearSpec : ChangeSpec := { name := "sumLinear", fn := fun _ => fun
  | [d1, d2, d3] => { results := [.lit (.bool true)], args := [d1, d2, d3] }
  | _ => none }
def sumLinearRow : OpenClaim := { program := "ytjiihkpbeogbcaadoor", sum := "eee392db6615252b550e6f4adfb10de588cd476a5dd8bde5d41146317aceaed7", func := "isobar/isobarlaw02.SumLinear", spec := "sumLinear", named := ["isobar/sum.halves"], apart := false, laid := [("isobar/sum.halves", laid_isobar_sum_halves)] }
def SumLinearSaid : Prop := sumLinearRow.holds Tryd.pinned (OpenSpec.ofChange sumLinearSpec)

/-- ITS FALSE NEIGHBOUR: 'it returns false'. Refute it at one input. -/
def sumLinearWrong : ChangeSpec := { name := "sumLinear", fn := fun _ => fun
  | [d1, d2, d3] => { results := [.lit (.bool false)], args := [d1, d2, d3] }
  | _ => none }
def SumLinearWrongFalsely : Prop := sumLinearRow.holds Tryd.pinned (OpenSpec.ofChange sumLinearWrong)

/-- 'isobarlaw02.SumShort': WHATEVER THE INPUT: true; the input reads as it did. -/
def sumShortSpec : ChangeSpec := { name := "sumShort", fn := fun _ => fun
  | [d] => { results := [.lit (.bool true)], args := [d] }
  | _ => none }
def sumShortRow : OpenClaim := { program := "ytjiihkpbeogbcaadoor", sum := "eee392db6615252b550e6f4adfb10de588cd476a5dd8bde5d41146317aceaed7", func := "isobar/isobarlaw02.SumShort", spec := "sumShort", named := ["isobar/sum.halves"], apart := false, laid := [("isobar/sum.halves", laid_isobar_sum_halves)] }
def SumShortSaid : Prop := sumShortRow.holds Tryd.pinned (OpenSpec.ofChange sumShortSpec)

/-- ITS FALSE NEIGHBOUR: 'it returns false'. Refute it at one input. -/
def sumShortWrong : ChangeSpec := { name := "sumShort", fn := fun _ => fun
  | [d] => { results := [.lit (.bool false)], args := [d] }
  | _ => none }
def SumShortWrongFalsely : Prop := sumShortRow.holds Tryd.pinned (OpenSpec.ofChange sumShortWrong)

/- THE SECOND FORM. 'bulk': how many values and letters a reading holds, each counted each time it is reached (what is shared counts as often as it is met; a slice's spare places count too). A statement '..UptoSaid' is the law's where the arguments, and the package variables that the reading takes, are together of bulk at most 1048576: NARROWER than '..Said'. Prove '..Said' where nothing that the law and all that it calls make is longer than what came in: it says more and counts as full. Else prove '..UptoSaid'. A law counts once. -/
mutual
def uptoBulk {H : Type} : DataW H → Nat
  | .lit (.string bytes) => bytes.length + 1
  | .lit _ => 1
  | .nil => 1
  | .ptr d => uptoBulk d + 1
  | .slice elems spare => uptoBulkAll elems + uptoBulkAll spare + 1
  | .agg parts => uptoBulkAll parts + 1
  | .iface _ d => uptoBulk d + 1
  | .map entries => uptoBulkEntries entries + 1
  | .held _ => 1
def uptoBulkAll {H : Type} : List (DataW H) → Nat
  | [] => 0
  | d :: r => uptoBulk d + uptoBulkAll r
def uptoBulkEntries {H : Type} : List (Lit × DataW H) → Nat
  | [] => 0
  | x :: r => uptoBulkEntry x + uptoBulkEntries r
def uptoBulkEntry {H : Type} : Lit × DataW H → Nat
  | (.string bytes, d) => bytes.length + uptoBulk d + 1
  | (_, d) => uptoBulk d + 1
 end
def uptoSmall : (H : Type) → List (DataW H) → Bool := fun _ ds => decide (uptoBulkAll ds ≤ 1048576)
def OpenSpec.upto (s : _root_.Go.ChangeSpec) : _root_.Go.OpenSpec := { _root_.Go.OpenSpec.ofChange s with cond := some uptoSmall }

/-- 'isobarlaw02.SumChecks', WHERE WHAT IT READS IS OF BULK AT MOST 1048576: true; the input reads as it did. -/
def sumChecksUptoRow : OpenClaim := { program := "ytjiihkpbeogbcaadoor", sum := "eee392db6615252b550e6f4adfb10de588cd476a5dd8bde5d41146317aceaed7", func := "isobar/isobarlaw02.SumChecks", spec := "sumChecks", named := ["isobar/sum.halves"], apart := false, laid := [("isobar/sum.halves", laid_isobar_sum_halves)], narrowed := true }
def SumChecksUptoSaid : Prop := sumChecksUptoRow.holds Tryd.pinned (OpenSpec.upto sumChecksSpec)

/-- 'isobarlaw02.SumOpens', WHERE WHAT IT READS IS OF BULK AT MOST 1048576: true; the input reads as it did. -/
def sumOpensUptoRow : OpenClaim := { program := "ytjiihkpbeogbcaadoor", sum := "eee392db6615252b550e6f4adfb10de588cd476a5dd8bde5d41146317aceaed7", func := "isobar/isobarlaw02.SumOpens", spec := "sumOpens", named := ["isobar/sum.halves"], apart := false, laid := [("isobar/sum.halves", laid_isobar_sum_halves)], narrowed := true }
def SumOpensUptoSaid : Prop := sumOpensUptoRow.holds Tryd.pinned (OpenSpec.upto sumOpensSpec)

/-- 'isobarlaw02.SumTurned', WHERE WHAT IT READS IS OF BULK AT MOST 1048576: true; the input reads as it did. -/
def sumTurnedUptoRow : OpenClaim := { program := "ytjiihkpbeogbcaadoor", sum := "eee392db6615252b550e6f4adfb10de588cd476a5dd8bde5d41146317aceaed7", func := "isobar/isobarlaw02.SumTurned", spec := "sumTurned", named := ["isobar/sum.halves"], apart := false, laid := [("isobar/sum.halves", laid_isobar_sum_halves)], narrowed := true }
def SumTurnedUptoSaid : Prop := sumTurnedUptoRow.holds Tryd.pinned (OpenSpec.upto sumTurnedSpec)

/-- 'isobarlaw02.SumSectors', WHERE WHAT IT READS IS OF BULK AT MOST 1048576: true; the input reads as it did. -/
def sumSectorsUptoRow : OpenClaim := { program := "ytjiihkpbeogbcaadoor", sum := "eee392db6615252b550e6f4adfb10de588cd476a5dd8bde5d41146317aceaed7", func := "isobar/isobarlaw02.SumSectors", spec := "sumSectors", named := ["isobar/sum.halves"], apart := false, laid := [("isobar/sum.halves", laid_isobar_sum_halves)], narrowed := true }
def SumSectorsUptoSaid : Prop := sumSectorsUptoRow.holds Tryd.pinned (OpenSpec.upto sumSectorsSpec)

/-- 'isobarlaw02.SumLinear', WHERE WHAT IT READS IS OF BULK AT MOST 1048576: true; the input reads as it did. -/
def sumLinearUptoRow : OpenClaim := { program := "ytjiihkpbeogbcaadoor", sum := "eee392db6615252b550e6f4adfb10de588cd476a5dd8bde5d41146317aceaed7", func := "isobar/isobarlaw02.SumLinear", spec := "sumLinear", named := ["isobar/sum.halves"], apart := false, laid := [("isobar/sum.halves", laid_isobar_sum_halves)], narrowed := true }
def SumLinearUptoSaid : Prop := sumLinearUptoRow.holds Tryd.pinned (OpenSpec.upto sumLinearSpec)

/-- 'isobarlaw02.SumShort', WHERE WHAT IT READS IS OF BULK AT MOST 1048576: true; the input reads as it did. -/
def sumShortUptoRow : OpenClaim := { program := "ytjiihkpbeogbcaadoor", sum := "eee392db6615252b550e6f4adfb10de588cd476a5dd8bde5d41146317aceaed7", func := "isobar/isobarlaw02.SumShort", spec := "sumShort", named := ["isobar/sum.halves"], apart := false, laid := [("isobar/sum.halves", laid_isobar_sum_halves)], narrowed := true }
def SumShortUptoSaid : Prop := sumShortUptoRow.holds Tryd.pinned (OpenSpec.upto sumShortSpec)

end Rows
end Go.Proofs.YtjiihkpbeogbcaaDoor
