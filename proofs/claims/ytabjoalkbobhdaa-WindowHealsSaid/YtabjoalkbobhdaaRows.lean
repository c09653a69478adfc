/-
  No cell of these rows narrows 'for every input' (looked for: loops, veiled, ifaces, maps, wideKeys, modest, calm, conditions, laid).
  DERIVED. THE GIVEN ROWS OF THIS SEAT. 4 by the template 'for every input the law returns true; each argument reads behind the call as it read before'; 0 by the template 'total and deterministic' (their statements: YtabjoalkbobhdaaTotals.lean).
  GIVEN WITH THE SEED: the statements are not yours to turn. If you find one false, say at which input.
  Laid BY PROGRAM, IN A SANDBOX (cutbox-rows.mjs): the forced cells as the released guide's own fill.sh prints them over the translation ca51b861a069428b… (all of the seat's roots in one cut). By AI agents, Wed Nov 11 2026. No macro, syntax, notation, axiom, sorry.
-/
import Derived.Test.YtabjoalkbobhdaaChecked
import GoSem.Claim
import GoSem.ClaimJoined
import GoSem.ClaimMapViews
import Derived.JoinedTies
import Derived.KernelRfl
namespace Go.Proofs.Ytabjoalkbobhdaa
/- THE CELL 'sum', in the pinned program and in every row, IS THE sha256 OF THE DUMP (.gsa) THAT YtabjoalkbobhdaaProg.lean LOADS. Nothing in Lean hashes anything: it is a label: what it is worth is what the hold of that sum in a sandbox is worth. -/
noncomputable def Try.pinned : Pinned := { name := "ytabjoalkbobhdaa", sum := "ca51b861a069428b511a5eae7d02b86bab49a1369edf493d7bc83a70c4128f25", checked := Try.checked }
namespace Rows
def none {H : Type} : Left H := { results := [], args := [] }

/-- 'isobarlaw09.WindowLossy': WHATEVER THE INPUT: true; the input reads as it did. -/
def windowLossySpec : ChangeSpec := { name := "windowLossy", fn := fun _ => fun
  | [d] => { results := [.lit (.bool true)], args := [d] }
  | _ => none }
def windowLossyRow : OpenClaim := { program := "ytabjoalkbobhdaa", sum := "ca51b861a069428b511a5eae7d02b86bab49a1369edf493d7bc83a70c4128f25", func := "isobar/isobarlaw09.WindowLossy", spec := "windowLossy", apart := false }
def WindowLossySaid : Prop := windowLossyRow.holds Try.pinned (OpenSpec.ofChange windowLossySpec)

/-- ITS FALSE NEIGHBOUR: 'it returns false'. Refute it at one input. -/
def windowLossyWrong : ChangeSpec := { name := "windowLossy", fn := fun _ => fun
  | [d] => { results := [.lit (.bool false)], args := [d] }
  | _ => none }
def WindowLossyWrongFalsely : Prop := windowLossyRow.holds Try.pinned (OpenSpec.ofChange windowLossyWrong)

/-- 'isobarlaw09.WindowHeals': WHATEVER THE INPUT: true; the input reads as it did. -/
def windowHealsSpec : ChangeSpec := { name := "windowHeals", fn := fun _ => fun
  | [d1, d2] => { results := [.lit (.bool true)], args := [d1, d2] }
  | _ => none }
def windowHealsRow : OpenClaim := { program := "ytabjoalkbobhdaa", sum := "ca51b861a069428b511a5eae7d02b86bab49a1369edf493d7bc83a70c4128f25", func := "isobar/isobarlaw09.WindowHeals", spec := "windowHeals", apart := false }
def WindowHealsSaid : Prop := windowHealsRow.holds Try.pinned (OpenSpec.ofChange windowHealsSpec)

/-- ITS FALSE NEIGHBOUR: 'it returns false'. Refute it at one input. -/
def windowHealsWrong : ChangeSpec := { name := "windowHeals", fn := fun _ => fun
  | [d1, d2] => { results := [.lit (.bool false)], args := [d1, d2] }
  | _ => none }
def WindowHealsWrongFalsely : Prop := windowHealsRow.holds Try.pinned (OpenSpec.ofChange windowHealsWrong)

/-- 'isobarlaw09.WindowSends': WHATEVER THE INPUT: true; the input reads as it did. -/
def windowSendsSpec : ChangeSpec := { name := "windowSends", fn := fun _ => fun
  | [d1, d2] => { results := [.lit (.bool true)], args := [d1, d2] }
  | _ => none }
def windowSendsRow : OpenClaim := { program := "ytabjoalkbobhdaa", sum := "ca51b861a069428b511a5eae7d02b86bab49a1369edf493d7bc83a70c4128f25", func := "isobar/isobarlaw09.WindowSends", spec := "windowSends", apart := false }
def WindowSendsSaid : Prop := windowSendsRow.holds Try.pinned (OpenSpec.ofChange windowSendsSpec)

/-- ITS FALSE NEIGHBOUR: 'it returns false'. Refute it at one input. -/
def windowSendsWrong : ChangeSpec := { name := "windowSends", fn := fun _ => fun
  | [d1, d2] => { results := [.lit (.bool false)], args := [d1, d2] }
  | _ => none }
def WindowSendsWrongFalsely : Prop := windowSendsRow.holds Try.pinned (OpenSpec.ofChange windowSendsWrong)

/-- 'isobarlaw09.WindowDups': WHATEVER THE INPUT: true; the input reads as it did. -/
def windowDupsSpec : ChangeSpec := { name := "windowDups", fn := fun _ => fun
  | [d] => { results := [.lit (.bool true)], args := [d] }
  | _ => none }
def windowDupsRow : OpenClaim := { program := "ytabjoalkbobhdaa", sum := "ca51b861a069428b511a5eae7d02b86bab49a1369edf493d7bc83a70c4128f25", func := "isobar/isobarlaw09.WindowDups", spec := "windowDups", apart := false }
def WindowDupsSaid : Prop := windowDupsRow.holds Try.pinned (OpenSpec.ofChange windowDupsSpec)

/-- ITS FALSE NEIGHBOUR: 'it returns false'. Refute it at one input. -/
def windowDupsWrong : ChangeSpec := { name := "windowDups", fn := fun _ => fun
  | [d] => { results := [.lit (.bool false)], args := [d] }
  | _ => none }
def WindowDupsWrongFalsely : Prop := windowDupsRow.holds Try.pinned (OpenSpec.ofChange windowDupsWrong)

/- THE SECOND FORM. 'bulk': how many values and letters a reading holds, each counted each time it is reached (what is shared counts as often as it is met; a slice's spare places count too). A statement '..UptoSaid' is the law's where the arguments, and the package variables that the reading takes, are together of bulk at most 1048576: NARROWER than '..Said'. Prove '..Said' where nothing that the law and all that it calls make is longer than what came in: it says more and counts as full. Else prove '..UptoSaid'. A law counts once. -/
mutual
def uptoBulk {H : Type} : DataW H → Nat
  | .lit (.string bytes) => bytes.length + 1
  | .lit _ => 1
  | .nil => 1
  | .ptr d => uptoBulk d + 1
  | .slice elems spare => uptoBulkAll elems + uptoBulkAll spare + 1
  | .agg parts => uptoBulkAll parts + 1
  | .iface _ d => uptoBulk d + 1
  | .map entries => uptoBulkEntries entries + 1
  | .held _ => 1
def uptoBulkAll {H : Type} : List (DataW H) → Nat
  | [] => 0
  | d :: r => uptoBulk d + uptoBulkAll r
def uptoBulkEntries {H : Type} : List (Lit × DataW H) → Nat
  | [] => 0
  | x :: r => uptoBulkEntry x + uptoBulkEntries r
def uptoBulkEntry {H : Type} : Lit × DataW H → Nat
  | (.string bytes, d) => bytes.length + uptoBulk d + 1
  | (_, d) => uptoBulk d + 1
 end
def uptoSmall : (H : Type) → List (DataW H) → Bool := fun _ ds => decide (uptoBulkAll ds ≤ 1048576)
def OpenSpec.upto (s : _root_.Go.ChangeSpec) : _root_.Go.OpenSpec := { _root_.Go.OpenSpec.ofChange s with cond := some uptoSmall }

/-- 'isobarlaw09.WindowLossy', WHERE WHAT IT READS IS OF BULK AT MOST 1048576: true; the input reads as it did. -/
def windowLossyUptoRow : OpenClaim := { program := "ytabjoalkbobhdaa", sum := "ca51b861a069428b511a5eae7d02b86bab49a1369edf493d7bc83a70c4128f25", func := "isobar/isobarlaw09.WindowLossy", spec := "windowLossy", apart := false, narrowed := true }
def WindowLossyUptoSaid : Prop := windowLossyUptoRow.holds Try.pinned (OpenSpec.upto windowLossySpec)

/-- 'isobarlaw09.WindowHeals', WHERE WHAT IT READS IS OF BULK AT MOST 1048576: true; the input reads as it did. -/
def windowHealsUptoRow : OpenClaim := { program := "ytabjoalkbobhdaa", sum := "ca51b861a069428b511a5eae7d02b86bab49a1369edf493d7bc83a70c4128f25", func := "isobar/isobarlaw09.WindowHeals", spec := "windowHeals", apart := false, narrowed := true }
def WindowHealsUptoSaid : Prop := windowHealsUptoRow.holds Try.pinned (OpenSpec.upto windowHealsSpec)

/-- 'isobarlaw09.WindowSends', WHERE WHAT IT READS IS OF BULK AT MOST 1048576: true; the input reads as it did. -/
def windowSendsUptoRow : OpenClaim := { program := "ytabjoalkbobhdaa", sum := "ca51b861a069428b511a5eae7d02b86bab49a1369edf493d7bc83a70c4128f25", func := "isobar/isobarlaw09.WindowSends", spec := "windowSends", apart := false, narrowed := true }
def WindowSendsUptoSaid : Prop := windowSendsUptoRow.holds Try.pinned (OpenSpec.upto windowSendsSpec)

/-- 'isobarlaw09.WindowDups', WHERE WHAT IT READS IS OF BULK AT MOST 1048576: true; the input reads as it did. -/
def windowDupsUptoRow : OpenClaim := { program := "ytabjoalkbobhdaa", sum := "ca51b861a069428b511a5eae7d02b86bab49a1369edf493d7bc83a70c4128f25", func := "isobar/isobarlaw09.WindowDups", spec := "windowDups", apart := false, narrowed := true }
def WindowDupsUptoSaid : Prop := windowDupsUptoRow.holds Try.pinned (OpenSpec.upto windowDupsSpec)

end Rows
end Go.Proofs.Ytabjoalkbobhdaa
