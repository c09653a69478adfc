/-
  No cell of these rows narrows 'for every input' (looked for: loops, veiled, ifaces, maps, wideKeys, modest, calm, conditions, laid).
  DERIVED. THE GIVEN ROWS OF THIS SEAT. 4 by the template 'for every input the law returns true; each argument reads behind the call as it read before'; 0 by the template 'total and deterministic' (their statements: YtenenhhijkjjfaaTotals.lean).
  GIVEN WITH THE SEED: the statements are not yours to turn. If you find one false, say at which input.
  Laid BY PROGRAM, IN A SANDBOX (cutbox-rows.mjs): the forced cells as the released guide's own fill.sh prints them over the translation 1c684151019b4d8b… (all of the seat's roots in one cut). By AI agents, Wed Nov 11 2026. No macro, syntax, notation, axiom, sorry.
-/
import Derived.Test.YtenenhhijkjjfaaChecked
import GoSem.Claim
import GoSem.ClaimJoined
import GoSem.ClaimMapViews
import Derived.JoinedTies
import Derived.KernelRfl
namespace Go.Proofs.Ytenenhhijkjjfaa
/- THE CELL 'sum', in the pinned program and in every row, IS THE sha256 OF THE DUMP (.gsa) THAT YtenenhhijkjjfaaProg.lean LOADS. Nothing in Lean hashes anything: it is a label: what it is worth is what the hold of that sum in a sandbox is worth. -/
noncomputable def Try.pinned : Pinned := { name := "ytenenhhijkjjfaa", sum := "1c684151019b4d8b96d1e97054db9204007e3fca1f302fb8c9ca73fb155701fe", checked := Try.checked }
namespace Rows
def none {H : Type} : Left H := { results := [], args := [] }

/-- 'isobarlaw13.MarksNewest': WHATEVER THE INPUT: true; the input reads as it did. -/
def marksNewestSpec : ChangeSpec := { name := "marksNewest", fn := fun _ => fun
  | [d1, d2, d3, d4] => { results := [.lit (.bool true)], args := [d1, d2, d3, d4] }
  | _ => none }
def marksNewestRow : OpenClaim := { program := "ytenenhhijkjjfaa", sum := "1c684151019b4d8b96d1e97054db9204007e3fca1f302fb8c9ca73fb155701fe", func := "isobar/isobarlaw13.MarksNewest", spec := "marksNewest", unfollowed := true, recurses := true, apart := false }
def MarksNewestSaid : Prop := marksNewestRow.holds Try.pinned (OpenSpec.ofChange marksNewestSpec)

/-- ITS FALSE NEIGHBOUR: 'it returns false'. Refute it at one input. -/
def marksNewestWrong : ChangeSpec := { name := "marksNewest", fn := fun _ => fun
  | [d1, d2, d3, d4] => { results := [.lit (.bool false)], args := [d1, d2, d3, d4] }
  | _ => none }
def MarksNewestWrongFalsely : Prop := marksNewestRow.holds Try.pinned (OpenSpec.ofChange marksNewestWrong)

/-- 'isobarlaw13.MarksOrder': WHATEVER THE INPUT: true; the input reads as it did. -/
def marksOrderSpec : ChangeSpec := { name := "marksOrder", fn := fun _ => fun
  | [d1, d2, d3] => { results := [.lit (.bool true)], args := [d1, d2, d3] }
  | _ => none }
def marksOrderRow : OpenClaim := { program := "ytenenhhijkjjfaa", sum := "1c684151019b4d8b96d1e97054db9204007e3fca1f302fb8c9ca73fb155701fe", func := "isobar/isobarlaw13.MarksOrder", spec := "marksOrder", unfollowed := true, recurses := true, apart := false }
def MarksOrderSaid : Prop := marksOrderRow.holds Try.pinned (OpenSpec.ofChange marksOrderSpec)

/-- ITS FALSE NEIGHBOUR: 'it returns false'. Refute it at one input. -/
def marksOrderWrong : ChangeSpec := { name := "marksOrder", fn := fun _ => fun
  | [d1, d2, d3] => { results := [.lit (.bool false)], args := [d1, d2, d3] }
  | _ => none }
def MarksOrderWrongFalsely : Prop := marksOrderRow.holds Try.pinned (OpenSpec.ofChange marksOrderWrong)

/-- 'isobarlaw13.MarksLacks': WHATEVER THE INPUT: true; the input reads as it did. -/
def marksLacksSpec : ChangeSpec := { name := "marksLacks", fn := fun _ => fun
  | [d1, d2, d3] => { results := [.lit (.bool true)], args := [d1, d2, d3] }
  | _ => none }
def marksLacksRow : OpenClaim := { program := "ytenenhhijkjjfaa", sum := "1c684151019b4d8b96d1e97054db9204007e3fca1f302fb8c9ca73fb155701fe", func := "isobar/isobarlaw13.MarksLacks", spec := "marksLacks", unfollowed := true, recurses := true, apart := false }
def MarksLacksSaid : Prop := marksLacksRow.holds Try.pinned (OpenSpec.ofChange marksLacksSpec)

/-- ITS FALSE NEIGHBOUR: 'it returns false'. Refute it at one input. -/
def marksLacksWrong : ChangeSpec := { name := "marksLacks", fn := fun _ => fun
  | [d1, d2, d3] => { results := [.lit (.bool false)], args := [d1, d2, d3] }
  | _ => none }
def MarksLacksWrongFalsely : Prop := marksLacksRow.holds Try.pinned (OpenSpec.ofChange marksLacksWrong)

/-- 'isobarlaw13.MarksForget': WHATEVER THE INPUT: true; the input reads as it did. -/
def marksForgetSpec : ChangeSpec := { name := "marksForget", fn := fun _ => fun
  | [d1, d2, d3] => { results := [.lit (.bool true)], args := [d1, d2, d3] }
  | _ => none }
def marksForgetRow : OpenClaim := { program := "ytenenhhijkjjfaa", sum := "1c684151019b4d8b96d1e97054db9204007e3fca1f302fb8c9ca73fb155701fe", func := "isobar/isobarlaw13.MarksForget", spec := "marksForget", unfollowed := true, recurses := true, apart := false }
def MarksForgetSaid : Prop := marksForgetRow.holds Try.pinned (OpenSpec.ofChange marksForgetSpec)

/-- ITS FALSE NEIGHBOUR: 'it returns false'. Refute it at one input. -/
def marksForgetWrong : ChangeSpec := { name := "marksForget", fn := fun _ => fun
  | [d1, d2, d3] => { results := [.lit (.bool false)], args := [d1, d2, d3] }
  | _ => none }
def MarksForgetWrongFalsely : Prop := marksForgetRow.holds Try.pinned (OpenSpec.ofChange marksForgetWrong)

/- THE SECOND FORM. 'bulk': how many values and letters a reading holds, each counted each time it is reached (what is shared counts as often as it is met; a slice's spare places count too). A statement '..UptoSaid' is the law's where the arguments, and the package variables that the reading takes, are together of bulk at most 1048576: NARROWER than '..Said'. Prove '..Said' where nothing that the law and all that it calls make is longer than what came in: it says more and counts as full. Else prove '..UptoSaid'. A law counts once. -/
mutual
def uptoBulk {H : Type} : DataW H → Nat
  | .lit (.string bytes) => bytes.length + 1
  | .lit _ => 1
  | .nil => 1
  | .ptr d => uptoBulk d + 1
  | .slice elems spare => uptoBulkAll elems + uptoBulkAll spare + 1
  | .agg parts => uptoBulkAll parts + 1
  | .iface _ d => uptoBulk d + 1
  | .map entries => uptoBulkEntries entries + 1
  | .held _ => 1
def uptoBulkAll {H : Type} : List (DataW H) → Nat
  | [] => 0
  | d :: r => uptoBulk d + uptoBulkAll r
def uptoBulkEntries {H : Type} : List (Lit × DataW H) → Nat
  | [] => 0
  | x :: r => uptoBulkEntry x + uptoBulkEntries r
def uptoBulkEntry {H : Type} : Lit × DataW H → Nat
  | (.string bytes, d) => bytes.length + uptoBulk d + 1
  | (_, d) => uptoBulk d + 1
 end
def uptoSmall : (H : Type) → List (DataW H) → Bool := fun _ ds => decide (uptoBulkAll ds ≤ 1048576)
def OpenSpec.upto (s : _root_.Go.ChangeSpec) : _root_.Go.OpenSpec := { _root_.Go.OpenSpec.ofChange s with cond := some uptoSmall }

/-- 'isobarlaw13.MarksNewest', WHERE WHAT IT READS IS OF BULK AT MOST 1048576: true; the input reads as it did. -/
def marksNewestUptoRow : OpenClaim := { program := "ytenenhhijkjjfaa", sum := "1c684151019b4d8b96d1e97054db9204007e3fca1f302fb8c9ca73fb155701fe", func := "isobar/isobarlaw13.MarksNewest", spec := "marksNewest", unfollowed := true, recurses := true, apart := false, narrowed := true }
def MarksNewestUptoSaid : Prop := marksNewestUptoRow.holds Try.pinned (OpenSpec.upto marksNewestSpec)

/-- 'isobarlaw13.MarksOrder', WHERE WHAT IT READS IS OF BULK AT MOST 1048576: true; the input reads as it did. -/
def marksOrderUptoRow : OpenClaim := { program := "ytenenhhijkjjfaa", sum := "1c684151019b4d8b96d1e97054db9204007e3fca1f302fb8c9ca73fb155701fe", func := "isobar/isobarlaw13.MarksOrder", spec := "marksOrder", unfollowed := true, recurses := true, apart := false, narrowed := true }
def MarksOrderUptoSaid : Prop := marksOrderUptoRow.holds Try.pinned (OpenSpec.upto marksOrderSpec)

/-- 'isobarlaw13.MarksLacks', WHERE WHAT IT READS IS OF BULK AT MOST 1048576: true; the input reads as it did. -/
def marksLacksUptoRow : OpenClaim := { program := "ytenenhhijkjjfaa", sum := "1c684151019b4d8b96d1e97054db9204007e3fca1f302fb8c9ca73fb155701fe", func := "isobar/isobarlaw13.MarksLacks", spec := "marksLacks", unfollowed := true, recurses := true, apart := false, narrowed := true }
def MarksLacksUptoSaid : Prop := marksLacksUptoRow.holds Try.pinned (OpenSpec.upto marksLacksSpec)

/-- 'isobarlaw13.MarksForget', WHERE WHAT IT READS IS OF BULK AT MOST 1048576: true; the input reads as it did. -/
def marksForgetUptoRow : OpenClaim := { program := "ytenenhhijkjjfaa", sum := "1c684151019b4d8b96d1e97054db9204007e3fca1f302fb8c9ca73fb155701fe", func := "isobar/isobarlaw13.MarksForget", spec := "marksForget", unfollowed := true, recurses := true, apart := false, narrowed := true }
def MarksForgetUptoSaid : Prop := marksForgetUptoRow.holds Try.pinned (OpenSpec.upto marksForgetSpec)

end Rows
end Go.Proofs.Ytenenhhijkjjfaa
