/-
  No cell of these rows narrows 'for every input' (looked for: loops, veiled, ifaces, maps, wideKeys, modest, calm, conditions, laid).
  DERIVED. THE GIVEN ROWS OF THIS SEAT. 3 by the template 'for every input the law returns true; each argument reads behind the call as it read before'; 0 by the template 'total and deterministic' (their statements: YtjholhmgainbfaaTotals.lean).
  GIVEN WITH THE SEED: the statements are not yours to turn. If you find one false, say at which input.
  Laid BY PROGRAM, IN A SANDBOX (cutbox-rows.mjs): the forced cells as the released guide's own fill.sh prints them over the translation cb5a539e7b492e5a… (all of the seat's roots in one cut). By AI agents, Wed Nov 11 2026. No macro, syntax, notation, axiom, sorry.
-/
import Derived.Test.YtjholhmgainbfaaChecked
import GoSem.Claim
import GoSem.ClaimJoined
import GoSem.ClaimMapViews
import Derived.JoinedTies
import Derived.KernelRfl
namespace Go.Proofs.Ytjholhmgainbfaa
/- THE CELL 'sum', in the pinned program and in every row, IS THE sha256 OF THE DUMP (.gsa) THAT YtjholhmgainbfaaProg.lean LOADS. Nothing in Lean hashes anything: it is a label: what it is worth is what the hold of that sum in a sandbox is worth. -/
noncomputable def Try.pinned : Pinned := { name := "ytjholhmgainbfaa", sum := "cb5a539e7b492e5a9f3c3673567cb6db567deacffab2a446a3684b12081d78c9", checked := Try.checked }
namespace Rows
def none {H : Type} : Left H := { results := [], args := [] }

/-- 'isobarlaw08.GateKeeps': WHATEVER THE INPUT: true; the input reads as it did. -/
def gateKeepsSpec : ChangeSpec := { name := "gateKeeps", fn := fun _ => fun
  | [d] => { results := [.lit (.bool true)], args := [d] }
  | _ => none }
def gateKeepsRow : OpenClaim := { program := "ytjholhmgainbfaa", sum := "cb5a539e7b492e5a9f3c3673567cb6db567deacffab2a446a3684b12081d78c9", func := "isobar/isobarlaw08.GateKeeps", spec := "gateKeeps", apart := false }
def GateKeepsSaid : Prop := gateKeepsRow.holds Try.pinned (OpenSpec.ofChange gateKeepsSpec)

/-- ITS FALSE NEIGHBOUR: 'it returns false'. Refute it at one input. -/
def gateKeepsWrong : ChangeSpec := { name := "gateKeeps", fn := fun _ => fun
  | [d] => { results := [.lit (.bool false)], args := [d] }
  | _ => none }
def GateKeepsWrongFalsely : Prop := gateKeepsRow.holds Try.pinned (OpenSpec.ofChange gateKeepsWrong)

/-- 'isobarlaw08.GateThaws': WHATEVER THE INPUT: true; the input reads as it did. -/
def gateThawsSpec : ChangeSpec := { name := "gateThaws", fn := fun _ => fun
  | [d1, d2, d3, d4] => { results := [.lit (.bool true)], args := [d1, d2, d3, d4] }
  | _ => none }
def gateThawsRow : OpenClaim := { program := "ytjholhmgainbfaa", sum := "cb5a539e7b492e5a9f3c3673567cb6db567deacffab2a446a3684b12081d78c9", func := "isobar/isobarlaw08.GateThaws", spec := "gateThaws", apart := false }
def GateThawsSaid : Prop := gateThawsRow.holds Try.pinned (OpenSpec.ofChange gateThawsSpec)

/-- ITS FALSE NEIGHBOUR: 'it returns false'. Refute it at one input. -/
def gateThawsWrong : ChangeSpec := { name := "gateThaws", fn := fun _ => fun
  | [d1, d2, d3, d4] => { results := [.lit (.bool false)], args := [d1, d2, d3, d4] }
  | _ => none }
def GateThawsWrongFalsely : Prop := gateThawsRow.holds Try.pinned (OpenSpec.ofChange gateThawsWrong)

/-- 'isobarlaw08.GateOpen': WHATEVER THE INPUT: true; the input reads as it did. -/
def gateOpenSpec : ChangeSpec := { name := "gateOpen", fn := fun _ => fun
  | [d1, d2] => { results := [.lit (.bool true)], args := [d1, d2] }
  | _ => none }
def gateOpenRow : OpenClaim := { program := "ytjholhmgainbfaa", sum := "cb5a539e7b492e5a9f3c3673567cb6db567deacffab2a446a3684b12081d78c9", func := "isobar/isobarlaw08.GateOpen", spec := "gateOpen", apart := false }
def GateOpenSaid : Prop := gateOpenRow.holds Try.pinned (OpenSpec.ofChange gateOpenSpec)

/-- ITS FALSE NEIGHBOUR: 'it returns false'. Refute it at one input. -/
def gateOpenWrong : ChangeSpec := { name := "gateOpen", fn := fun _ => fun
  | [d1, d2] => { results := [.lit (.bool false)], args := [d1, d2] }
  | _ => none }
def GateOpenWrongFalsely : Prop := gateOpenRow.holds Try.pinned (OpenSpec.ofChange gateOpenWrong)

/- THE SECOND FORM. 'bulk': how many values and letters a reading holds, each counted each time it is reached (what is shared counts as often as it is met; a slice's spare places count too). A statement '..UptoSaid' is the law's where the arguments, and the package variables that the reading takes, are together of bulk at most 1048576: NARROWER than '..Said'. Prove '..Said' where nothing that the law and all that it calls make is longer than what came in: it says more and counts as full. Else prove '..UptoSaid'. A law counts once. -/
mutual
def uptoBulk {H : Type} : DataW H → Nat
  | .lit (.string bytes) => bytes.length + 1
  | .lit _ => 1
  | .nil => 1
  | .ptr d => uptoBulk d + 1
  | .slice elems spare => uptoBulkAll elems + uptoBulkAll spare + 1
  | .agg parts => uptoBulkAll parts + 1
  | .iface _ d => uptoBulk d + 1
  | .map entries => uptoBulkEntries entries + 1
  | .held _ => 1
def uptoBulkAll {H : Type} : List (DataW H) → Nat
  | [] => 0
  | d :: r => uptoBulk d + uptoBulkAll r
def uptoBulkEntries {H : Type} : List (Lit × DataW H) → Nat
  | [] => 0
  | x :: r => uptoBulkEntry x + uptoBulkEntries r
def uptoBulkEntry {H : Type} : Lit × DataW H → Nat
  | (.string bytes, d) => bytes.length + uptoBulk d + 1
  | (_, d) => uptoBulk d + 1
 end
def uptoSmall : (H : Type) → List (DataW H) → Bool := fun _ ds => decide (uptoBulkAll ds ≤ 1048576)
def OpenSpec.upto (s : _root_.Go.ChangeSpec) : _root_.Go.OpenSpec := { _root_.Go.OpenSpec.ofChange s with cond := some uptoSmall }

/-- 'isobarlaw08.GateKeeps', WHERE WHAT IT READS IS OF BULK AT MOST 1048576: true; the input reads as it did. -/
def gateKeepsUptoRow : OpenClaim := { program := "ytjholhmgainbfaa", sum := "cb5a539e7b492e5a9f3c3673567cb6db567deacffab2a446a3684b12081d78c9", func := "isobar/isobarlaw08.GateKeeps", spec := "gateKeeps", apart := false, narrowed := true }
def GateKeepsUptoSaid : Prop := gateKeepsUptoRow.holds Try.pinned (OpenSpec.upto gateKeepsSpec)

/-- 'isobarlaw08.GateThaws', WHERE WHAT IT READS IS OF BULK AT MOST 1048576: true; the input reads as it did. -/
def gateThawsUptoRow : OpenClaim := { program := "ytjholhmgainbfaa", sum := "cb5a539e7b492e5a9f3c3673567cb6db567deacffab2a446a3684b12081d78c9", func := "isobar/isobarlaw08.GateThaws", spec := "gateThaws", apart := false, narrowed := true }
def GateThawsUptoSaid : Prop := gateThawsUptoRow.holds Try.pinned (OpenSpec.upto gateThawsSpec)

/-- 'isobarlaw08.GateOpen', WHERE WHAT IT READS IS OF BULK AT MOST 1048576: true; the input reads as it did. -/
def gateOpenUptoRow : OpenClaim := { program := "ytjholhmgainbfaa", sum := "cb5a539e7b492e5a9f3c3673567cb6db567deacffab2a446a3684b12081d78c9", func := "isobar/isobarlaw08.GateOpen", spec := "gateOpen", apart := false, narrowed := true }
def GateOpenUptoSaid : Prop := gateOpenUptoRow.holds Try.pinned (OpenSpec.upto gateOpenSpec)

end Rows
end Go.Proofs.Ytjholhmgainbfaa
