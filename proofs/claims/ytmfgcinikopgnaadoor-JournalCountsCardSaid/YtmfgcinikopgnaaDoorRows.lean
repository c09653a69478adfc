/-
  NARROWER THAN 'FOR EVERY INPUT', by the rows' own cells (each row's printed sentence says how): JournalGaps: laid · JournalLost: laid · JournalNil: laid · JournalCounts: laid · JournalAgain: laid.
  DERIVED. THE GIVEN ROWS OF THIS SEAT. 5 by the template 'for every input the law returns true; each argument reads behind the call as it read before'; 0 by the template 'total and deterministic' (their statements: YtmfgcinikopgnaaDoorTotals.lean).
  GIVEN WITH THE SEED: the statements are not yours to turn. If you find one false, say at which input.
  Laid BY PROGRAM, IN A SANDBOX (cutbox-rows.mjs): the forced cells as the released guide's own fill.sh prints them over the translation cb46cdacef91b5e6… (all of the seat's roots in one cut). By AI agents, Wed Nov 11 2026. No macro, syntax, notation, axiom, sorry.
-/
import Derived.Test.YtmfgcinikopgnaaDoorChecked
import GoSem.Claim
import GoSem.ClaimJoined
import GoSem.ClaimMapViews
import Derived.JoinedTies
import Derived.KernelRfl
namespace Go.Proofs.YtmfgcinikopgnaaDoor
/- THE CELL 'sum', in the pinned program and in every row, IS THE sha256 OF THE DUMP (.gsa) THAT YtmfgcinikopgnaaDoorProg.lean LOADS. Nothing in Lean hashes anything: it is a label: what it is worth is what the hold of that sum in a sandbox is worth. -/
noncomputable def Tryd.pinned : Pinned := { name := "ytmfgcinikopgnaadoor", sum := "cb46cdacef91b5e63d0f2d9c7c4f40d5ee23c0f6e2ba42faa8b8b1e44c86dfd4", checked := Tryd.checked }
namespace Rows
def none {H : Type} : Left H := { results := [], args := [] }

/- WHAT THE LISTED PACKAGE-LEVEL VARIABLES READ AS WHEN THE CALL BEGINS. Each datum BY PROGRAM (the guide's laid-datum.mjs) off the statement by which the dump's own 'gosem.cut.vars' lays the variable. In a bare row this is a premise. The card (YtmfgcinikopgnaaDoorCards.lean) ties it to the program's text. -/
def laid_isobar_sum_halves {H : Type} : DataW H := .agg [.lit (.int .u32 0), .lit (.int .u32 274646895), .lit (.int .u32 549293790), .lit (.int .u32 820201905), .lit (.int .u32 1098587580), .lit (.int .u32 1361435347), .lit (.int .u32 1640403810), .lit (.int .u32 1905808397), .lit (.int .u32 2197175160), .lit (.int .u32 2460548119), .lit (.int .u32 2722870694), .lit (.int .u32 2987750089), .lit (.int .u32 3280807620), .lit (.int .u32 3553878443), .lit (.int .u32 3811616794), .lit (.int .u32 4084100981)]
def laid_errors_errorType {H : Type} : DataW H := .iface "internal/reflectlite.rtype" (.agg [.ptr (.lit (.string [101, 114, 114, 111, 114]))])

/-- 'isobarlaw06.JournalGaps': WHATEVER THE INPUT: true; the input reads as it did. -/
def journalGapsSpec : ChangeSpec := { name := "journalGaps", fn := fun _ => fun
  | [d1, d2, d3, d4] => { results := [.lit (.bool true)], args := [d1, d2, d3, d4] }
  | _ => none }
def journalGapsRow : OpenClaim := { program := "ytmfgcinikopgnaadoor", sum := "cb46cdacef91b5e63d0f2d9c7c4f40d5ee23c0f6e2ba42faa8b8b1e44c86dfd4", func := "isobar/isobarlaw06.JournalGaps", spec := "journalGaps", unfollowed := true, recurses := true, named := ["isobar/sum.halves"], apart := false, laid := [("isobar/sum.halves", laid_isobar_sum_halves)] }
def JournalGapsSaid : Prop := journalGapsRow.holds Tryd.pinned (OpenSpec.ofChange journalGapsSpec)

/-- ITS FALSE NEIGHBOUR: 'it returns false'. Refute it at one input. -/
def journalGapsWrong : ChangeSpec := { name := "journalGaps", fn := fun _ => fun
  | [d1, d2, d3, d4] => { results := [.lit (.bool false)], args := [d1, d2, d3, d4] }
  | _ => none }
def JournalGapsWrongFalsely : Prop := journalGapsRow.holds Tryd.pinned (OpenSpec.ofChange journalGapsWrong)

/-- 'isobarlaw06.JournalLost': WHATEVER THE INPUT: true; the input reads as it did. -/
def journalLostSpec : ChangeSpec := { name := "journalLost", fn := fun _ => fun
  | [d1, d2, d3, d4, d5, d6] => { results := [.lit (.bool true)], args := [d1, d2, d3, d4, d5, d6] }
  | _ => none }
def journalLostRow : OpenClaim := { program := "ytmfgcinikopgnaadoor", sum := "cb46cdacef91b5e63d0f2d9c7c4f40d5ee23c0f6e2ba42faa8b8b1e44c86dfd4", func := "isobar/isobarlaw06.JournalLost", spec := "journalLost", unfollowed := true, recurses := true, named := ["isobar/sum.halves"], apart := false, laid := [("isobar/sum.halves", laid_isobar_sum_halves)] }
def JournalLostSaid : Prop := journalLostRow.holds Tryd.pinned (OpenSpec.ofChange journalLostSpec)

/-- ITS FALSE NEIGHBOUR: 'it returns false'. Refute it at one input. -/
def journalLostWrong : ChangeSpec := { name := "journalLost", fn := fun _ => fun
  | [d1, d2, d3, d4, d5, d6] => { results := [.lit (.bool false)], args := [d1, d2, d3, d4, d5, d6] }
  | _ => none }
def JournalLostWrongFalsely : Prop := journalLostRow.holds Tryd.pinned (OpenSpec.ofChange journalLostWrong)

/-- 'isobarlaw06.JournalNil': WHATEVER THE INPUT: true; the input reads as it did. -/
def journalNilSpec : ChangeSpec := { name := "journalNil", fn := fun _ => fun
  | [d1, d2] => { results := [.lit (.bool true)], args := [d1, d2] }
  | _ => none }
def journalNilRow : OpenClaim := { program := "ytmfgcinikopgnaadoor", sum := "cb46cdacef91b5e63d0f2d9c7c4f40d5ee23c0f6e2ba42faa8b8b1e44c86dfd4", func := "isobar/isobarlaw06.JournalNil", spec := "journalNil", inPlace := ["internal/reflectlite.ValueOf", "(internal/reflectlite.Value).Type", "(internal/reflectlite.Value).IsNil", "internal/reflectlite.TypeOf", "(internal/reflectlite.Value).Elem", "(internal/reflectlite.Value).Set"], unfollowed := true, recurses := true, named := ["isobar/sum.halves", "errors.errorType"], apart := false, laid := [("errors.errorType", laid_errors_errorType), ("isobar/sum.halves", laid_isobar_sum_halves)] }
def JournalNilSaid : Prop := journalNilRow.holds Tryd.pinned (OpenSpec.ofChange journalNilSpec)

/-- ITS FALSE NEIGHBOUR: 'it returns false'. Refute it at one input. -/
def journalNilWrong : ChangeSpec := { name := "journalNil", fn := fun _ => fun
  | [d1, d2] => { results := [.lit (.bool false)], args := [d1, d2] }
  | _ => none }
def JournalNilWrongFalsely : Prop := journalNilRow.holds Tryd.pinned (OpenSpec.ofChange journalNilWrong)

/-- 'isobarlaw06.JournalCounts': WHATEVER THE INPUT: true; the input reads as it did. -/
def journalCountsSpec : ChangeSpec := { name := "journalCounts", fn := fun _ => fun
  | [d1, d2] => { results := [.lit (.bool true)], args := [d1, d2] }
  | _ => none }
def journalCountsRow : OpenClaim := { program := "ytmfgcinikopgnaadoor", sum := "cb46cdacef91b5e63d0f2d9c7c4f40d5ee23c0f6e2ba42faa8b8b1e44c86dfd4", func := "isobar/isobarlaw06.JournalCounts", spec := "journalCounts", unfollowed := true, recurses := true, named := ["isobar/sum.halves"], apart := false, laid := [("isobar/sum.halves", laid_isobar_sum_halves)] }
def JournalCountsSaid : Prop := journalCountsRow.holds Tryd.pinned (OpenSpec.ofChange journalCountsSpec)

/-- ITS FALSE NEIGHBOUR: 'it returns false'. Refute it at one input. -/
def journalCountsWrong : ChangeSpec := { name := "journalCounts", fn := fun _ => fun
  | [d1, d2] => { results := [.lit (.bool false)], args := [d1, d2] }
  | _ => none }
def JournalCountsWrongFalsely : Prop := journalCountsRow.holds Tryd.pinned (OpenSpec.ofChange journalCountsWrong)

/-- 'isobarlaw06.JournalAgain': WHATEVER THE INPUT: true; the input reads as it did. -/
def journalAgainSpec : ChangeSpec := { name := "journalAgain", fn := fun _ => fun
  | [d1, d2, d3, d4] => { results := [.lit (.bool true)], args := [d1, d2, d3, d4] }
  | _ => none }
def journalAgainRow : OpenClaim := { program := "ytmfgcinikopgnaadoor", sum := "cb46cdacef91b5e63d0f2d9c7c4f40d5ee23c0f6e2ba42faa8b8b1e44c86dfd4", func := "isobar/isobarlaw06.JournalAgain", spec := "journalAgain", unfollowed := true, recurses := true, named := ["isobar/sum.halves"], apart := false, laid := [("isobar/sum.halves", laid_isobar_sum_halves)] }
def JournalAgainSaid : Prop := journalAgainRow.holds Tryd.pinned (OpenSpec.ofChange journalAgainSpec)

/-- ITS FALSE NEIGHBOUR: 'it returns false'. Refute it at one input. -/
def journalAgainWrong : ChangeSpec := { name := "journalAgain", fn := fun _ => fun
  | [d1, d2, d3, d4] => { results := [.lit (.bool false)], args := [d1, d2, d3, d4] }
  | _ => none }
def JournalAgainWrongFalsely : Prop := journalAgainRow.holds Tryd.pinned (OpenSpec.ofChange journalAgainWrong)

/- THE SECOND FORM. 'bulk': how many values and letters a reading holds, each counted each time it is reached (what is shared counts as often as it is met; a slice's spare places count too). A statement '..UptoSaid' is the law's where the arguments, and the package variables that the reading takes, are together of bulk at most 1048576: NARROWER than '..Said'. Prove '..Said' where nothing that the law and all that it calls make is longer than what came in: it says more and counts as full. Else prove '..UptoSaid'. A law counts once. -/
mutual
def uptoBulk {H : Type} : DataW H → Nat
  | .lit (.string bytes) => bytes.length + 1
  | .lit _ => 1
  | .nil => 1
  | .ptr d => uptoBulk d + 1
  | .slice elems spare => uptoBulkAll elems + uptoBulkAll spare + 1
  | .agg parts => uptoBulkAll parts + 1
  | .iface _ d => uptoBulk d + 1
  | .map entries => uptoBulkEntries entries + 1
  | .held _ => 1
def uptoBulkAll {H : Type} : List (DataW H) → Nat
  | [] => 0
  | d :: r => uptoBulk d + uptoBulkAll r
def uptoBulkEntries {H : Type} : List (Lit × DataW H) → Nat
  | [] => 0
  | x :: r => uptoBulkEntry x + uptoBulkEntries r
def uptoBulkEntry {H : Type} : Lit × DataW H → Nat
  | (.string bytes, d) => bytes.length + uptoBulk d + 1
  | (_, d) => uptoBulk d + 1
 end
def uptoSmall : (H : Type) → List (DataW H) → Bool := fun _ ds => decide (uptoBulkAll ds ≤ 1048576)
def OpenSpec.upto (s : _root_.Go.ChangeSpec) : _root_.Go.OpenSpec := { _root_.Go.OpenSpec.ofChange s with cond := some uptoSmall }

/-- 'isobarlaw06.JournalGaps', WHERE WHAT IT READS IS OF BULK AT MOST 1048576: true; the input reads as it did. -/
def journalGapsUptoRow : OpenClaim := { program := "ytmfgcinikopgnaadoor", sum := "cb46cdacef91b5e63d0f2d9c7c4f40d5ee23c0f6e2ba42faa8b8b1e44c86dfd4", func := "isobar/isobarlaw06.JournalGaps", spec := "journalGaps", unfollowed := true, recurses := true, named := ["isobar/sum.halves"], apart := false, laid := [("isobar/sum.halves", laid_isobar_sum_halves)], narrowed := true }
def JournalGapsUptoSaid : Prop := journalGapsUptoRow.holds Tryd.pinned (OpenSpec.upto journalGapsSpec)

/-- 'isobarlaw06.JournalLost', WHERE WHAT IT READS IS OF BULK AT MOST 1048576: true; the input reads as it did. -/
def journalLostUptoRow : OpenClaim := { program := "ytmfgcinikopgnaadoor", sum := "cb46cdacef91b5e63d0f2d9c7c4f40d5ee23c0f6e2ba42faa8b8b1e44c86dfd4", func := "isobar/isobarlaw06.JournalLost", spec := "journalLost", unfollowed := true, recurses := true, named := ["isobar/sum.halves"], apart := false, laid := [("isobar/sum.halves", laid_isobar_sum_halves)], narrowed := true }
def JournalLostUptoSaid : Prop := journalLostUptoRow.holds Tryd.pinned (OpenSpec.upto journalLostSpec)

/-- 'isobarlaw06.JournalNil', WHERE WHAT IT READS IS OF BULK AT MOST 1048576: true; the input reads as it did. -/
def journalNilUptoRow : OpenClaim := { program := "ytmfgcinikopgnaadoor", sum := "cb46cdacef91b5e63d0f2d9c7c4f40d5ee23c0f6e2ba42faa8b8b1e44c86dfd4", func := "isobar/isobarlaw06.JournalNil", spec := "journalNil", inPlace := ["internal/reflectlite.ValueOf", "(internal/reflectlite.Value).Type", "(internal/reflectlite.Value).IsNil", "internal/reflectlite.TypeOf", "(internal/reflectlite.Value).Elem", "(internal/reflectlite.Value).Set"], unfollowed := true, recurses := true, named := ["isobar/sum.halves", "errors.errorType"], apart := false, laid := [("errors.errorType", laid_errors_errorType), ("isobar/sum.halves", laid_isobar_sum_halves)], narrowed := true }
def JournalNilUptoSaid : Prop := journalNilUptoRow.holds Tryd.pinned (OpenSpec.upto journalNilSpec)

/-- 'isobarlaw06.JournalCounts', WHERE WHAT IT READS IS OF BULK AT MOST 1048576: true; the input reads as it did. -/
def journalCountsUptoRow : OpenClaim := { program := "ytmfgcinikopgnaadoor", sum := "cb46cdacef91b5e63d0f2d9c7c4f40d5ee23c0f6e2ba42faa8b8b1e44c86dfd4", func := "isobar/isobarlaw06.JournalCounts", spec := "journalCounts", unfollowed := true, recurses := true, named := ["isobar/sum.halves"], apart := false, laid := [("isobar/sum.halves", laid_isobar_sum_halves)], narrowed := true }
def JournalCountsUptoSaid : Prop := journalCountsUptoRow.holds Tryd.pinned (OpenSpec.upto journalCountsSpec)

/-- 'isobarlaw06.JournalAgain', WHERE WHAT IT READS IS OF BULK AT MOST 1048576: true; the input reads as it did. -/
def journalAgainUptoRow : OpenClaim := { program := "ytmfgcinikopgnaadoor", sum := "cb46cdacef91b5e63d0f2d9c7c4f40d5ee23c0f6e2ba42faa8b8b1e44c86dfd4", func := "isobar/isobarlaw06.JournalAgain", spec := "journalAgain", unfollowed := true, recurses := true, named := ["isobar/sum.halves"], apart := false, laid := [("isobar/sum.halves", laid_isobar_sum_halves)], narrowed := true }
def JournalAgainUptoSaid : Prop := journalAgainUptoRow.holds Tryd.pinned (OpenSpec.upto journalAgainSpec)

end Rows
end Go.Proofs.YtmfgcinikopgnaaDoor
