/-
  No cell of these rows narrows 'for every input' (looked for: loops, veiled, ifaces, maps, wideKeys, modest, calm, conditions, laid).
  DERIVED. THE GIVEN ROWS OF THIS SEAT. 3 by the template 'for every input the law returns true; each argument reads behind the call as it read before'; 0 by the template 'total and deterministic' (their statements: YteneacmdfehfnaaTotals.lean).
  GIVEN WITH THE SEED: the statements are not yours to turn. If you find one false, say at which input.
  Laid BY PROGRAM, IN A SANDBOX (cutbox-rows.mjs): the forced cells as the released guide's own fill.sh prints them over the translation ad25390bee85dbcd… (all of the seat's roots in one cut). By AI agents, Wed Nov 11 2026. No macro, syntax, notation, axiom, sorry.
-/
import Derived.Test.YteneacmdfehfnaaChecked
import GoSem.Claim
import GoSem.ClaimJoined
import GoSem.ClaimMapViews
import Derived.JoinedTies
import Derived.KernelRfl
namespace Go.Proofs.Yteneacmdfehfnaa
/- THE CELL 'sum', in the pinned program and in every row, IS THE sha256 OF THE DUMP (.gsa) THAT YteneacmdfehfnaaProg.lean LOADS. Nothing in Lean hashes anything: it is a label: what it is worth is what the hold of that sum in a sandbox is worth. -/
noncomputable def Try.pinned : Pinned := { name := "yteneacmdfehfnaa", sum := "ad25390bee85dbcd81e8b9aa1d558b528d6b92b495c026d03f0d906333b6afca", checked := Try.checked }
namespace Rows
def none {H : Type} : Left H := { results := [], args := [] }

/-- 'isobarlaw12.StageFast': WHATEVER THE INPUT: true; the input reads as it did. -/
def stageFastSpec : ChangeSpec := { name := "stageFast", fn := fun _ => fun
  | [d1, d2, d3] => { results := [.lit (.bool true)], args := [d1, d2, d3] }
  | _ => none }
def stageFastRow : OpenClaim := { program := "yteneacmdfehfnaa", sum := "ad25390bee85dbcd81e8b9aa1d558b528d6b92b495c026d03f0d906333b6afca", func := "isobar/isobarlaw12.StageFast", spec := "stageFast", apart := false }
def StageFastSaid : Prop := stageFastRow.holds Try.pinned (OpenSpec.ofChange stageFastSpec)

/-- ITS FALSE NEIGHBOUR: 'it returns false'. Refute it at one input. -/
def stageFastWrong : ChangeSpec := { name := "stageFast", fn := fun _ => fun
  | [d1, d2, d3] => { results := [.lit (.bool false)], args := [d1, d2, d3] }
  | _ => none }
def StageFastWrongFalsely : Prop := stageFastRow.holds Try.pinned (OpenSpec.ofChange stageFastWrong)

/-- 'isobarlaw12.StageUpTo': WHATEVER THE INPUT: true; the input reads as it did. -/
def stageUpToSpec : ChangeSpec := { name := "stageUpTo", fn := fun _ => fun
  | [d1, d2] => { results := [.lit (.bool true)], args := [d1, d2] }
  | _ => none }
def stageUpToRow : OpenClaim := { program := "yteneacmdfehfnaa", sum := "ad25390bee85dbcd81e8b9aa1d558b528d6b92b495c026d03f0d906333b6afca", func := "isobar/isobarlaw12.StageUpTo", spec := "stageUpTo", unfollowed := true, recurses := true, apart := false }
def StageUpToSaid : Prop := stageUpToRow.holds Try.pinned (OpenSpec.ofChange stageUpToSpec)

/-- ITS FALSE NEIGHBOUR: 'it returns false'. Refute it at one input. -/
def stageUpToWrong : ChangeSpec := { name := "stageUpTo", fn := fun _ => fun
  | [d1, d2] => { results := [.lit (.bool false)], args := [d1, d2] }
  | _ => none }
def StageUpToWrongFalsely : Prop := stageUpToRow.holds Try.pinned (OpenSpec.ofChange stageUpToWrong)

/-- 'isobarlaw12.StageOnce': WHATEVER THE INPUT: true; the input reads as it did. -/
def stageOnceSpec : ChangeSpec := { name := "stageOnce", fn := fun _ => fun
  | [d1, d2, d3] => { results := [.lit (.bool true)], args := [d1, d2, d3] }
  | _ => none }
def stageOnceRow : OpenClaim := { program := "yteneacmdfehfnaa", sum := "ad25390bee85dbcd81e8b9aa1d558b528d6b92b495c026d03f0d906333b6afca", func := "isobar/isobarlaw12.StageOnce", spec := "stageOnce", unfollowed := true, recurses := true, apart := false }
def StageOnceSaid : Prop := stageOnceRow.holds Try.pinned (OpenSpec.ofChange stageOnceSpec)

/-- ITS FALSE NEIGHBOUR: 'it returns false'. Refute it at one input. -/
def stageOnceWrong : ChangeSpec := { name := "stageOnce", fn := fun _ => fun
  | [d1, d2, d3] => { results := [.lit (.bool false)], args := [d1, d2, d3] }
  | _ => none }
def StageOnceWrongFalsely : Prop := stageOnceRow.holds Try.pinned (OpenSpec.ofChange stageOnceWrong)

/- THE SECOND FORM. 'bulk': how many values and letters a reading holds, each counted each time it is reached (what is shared counts as often as it is met; a slice's spare places count too). A statement '..UptoSaid' is the law's where the arguments, and the package variables that the reading takes, are together of bulk at most 1048576: NARROWER than '..Said'. Prove '..Said' where nothing that the law and all that it calls make is longer than what came in: it says more and counts as full. Else prove '..UptoSaid'. A law counts once. -/
mutual
def uptoBulk {H : Type} : DataW H → Nat
  | .lit (.string bytes) => bytes.length + 1
  | .lit _ => 1
  | .nil => 1
  | .ptr d => uptoBulk d + 1
  | .slice elems spare => uptoBulkAll elems + uptoBulkAll spare + 1
  | .agg parts => uptoBulkAll parts + 1
  | .iface _ d => uptoBulk d + 1
  | .map entries => uptoBulkEntries entries + 1
  | .held _ => 1
def uptoBulkAll {H : Type} : List (DataW H) → Nat
  | [] => 0
  | d :: r => uptoBulk d + uptoBulkAll r
def uptoBulkEntries {H : Type} : List (Lit × DataW H) → Nat
  | [] => 0
  | x :: r => uptoBulkEntry x + uptoBulkEntries r
def uptoBulkEntry {H : Type} : Lit × DataW H → Nat
  | (.string bytes, d) => bytes.length + uptoBulk d + 1
  | (_, d) => uptoBulk d + 1
 end
def uptoSmall : (H : Type) → List (DataW H) → Bool := fun _ ds => decide (uptoBulkAll ds ≤ 1048576)
def OpenSpec.upto (s : _root_.Go.ChangeSpec) : _root_.Go.OpenSpec := { _root_.Go.OpenSpec.ofChange s with cond := some uptoSmall }

/-- 'isobarlaw12.StageFast', WHERE WHAT IT READS IS OF BULK AT MOST 1048576: true; the input reads as it did. -/
def stageFastUptoRow : OpenClaim := { program := "yteneacmdfehfnaa", sum := "ad25390bee85dbcd81e8b9aa1d558b528d6b92b495c026d03f0d906333b6afca", func := "isobar/isobarlaw12.StageFast", spec := "stageFast", apart := false, narrowed := true }
def StageFastUptoSaid : Prop := stageFastUptoRow.holds Try.pinned (OpenSpec.upto stageFastSpec)

/-- 'isobarlaw12.StageUpTo', WHERE WHAT IT READS IS OF BULK AT MOST 1048576: true; the input reads as it did. -/
def stageUpToUptoRow : OpenClaim := { program := "yteneacmdfehfnaa", sum := "ad25390bee85dbcd81e8b9aa1d558b528d6b92b495c026d03f0d906333b6afca", func := "isobar/isobarlaw12.StageUpTo", spec := "stageUpTo", unfollowed := true, recurses := true, apart := false, narrowed := true }
def StageUpToUptoSaid : Prop := stageUpToUptoRow.holds Try.pinned (OpenSpec.upto stageUpToSpec)

/-- 'isobarlaw12.StageOnce', WHERE WHAT IT READS IS OF BULK AT MOST 1048576: true; the input reads as it did. -/
def stageOnceUptoRow : OpenClaim := { program := "yteneacmdfehfnaa", sum := "ad25390bee85dbcd81e8b9aa1d558b528d6b92b495c026d03f0d906333b6afca", func := "isobar/isobarlaw12.StageOnce", spec := "stageOnce", unfollowed := true, recurses := true, apart := false, narrowed := true }
def StageOnceUptoSaid : Prop := stageOnceUptoRow.holds Try.pinned (OpenSpec.upto stageOnceSpec)

end Rows
end Go.Proofs.Yteneacmdfehfnaa
