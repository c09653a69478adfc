/-
  fault.Path and fault.First at a wrapped error: its places as texts, the number of the outermost place of a name. Nothing below is changed. Conditions: at most 1000 faults, whose names have at most 200 bytes and whose numbers' digits can be told; those of fault.unwrapped.
-/
import Derived.Test.YtidojlagdodkkabDoorFaPlace
import Derived.Test.YtidojlagdodkkabDoorFaWrapB
namespace Go.Proofs.YtidojlagdodkkabDoor.Fa
open Go.RowKit
open Pk Sm

abbrev Pl := ByteArray × Int
/-- Names that are short, numbers whose digits can be told. -/
def Nice (w : World) (fs : List Flt) : Prop := ∀ f ∈ fs, f.2.1.size ≤ 200 ∧ Dig w f.2.2
theorem Chain.at_ {w : World} : ∀ {fs : List Flt} {e i : Value} {k p : Nat} {op : ByteArray} {n : Int}, Chain w fs e i → fs[k]? = some (p, op, n) → ∃ e', w.heap[p]? = some (.cells #[.string op, .int .i64 n, e'] 50 (0, 0))
  | [], _, _, _, _, _, _, _, h => by simp at h
  | (p, op, n) :: r, _, _, 0, _, _, _, ⟨_, e', hp, _⟩, h => by
    simp at h
    obtain ⟨rfl, rfl, rfl⟩ := h
    exact ⟨e', hp⟩
  | (p, op, n) :: r, _, _, k + 1, _, _, _, ⟨_, e', hp, hr⟩, h => hr.at_ (by simpa using h)

/-- The number of the first place of a name. -/
def fnd : List Pl → ByteArray → Int × Bool
  | [], _ => (0, false)
  | q :: r, op => if (q.1.toList == op.toList) = true then (q.2, true) else fnd r op
theorem fnd_yes {q : Pl} {r : List Pl} {op : ByteArray} (h : (q.1.toList == op.toList) = true) : fnd (q :: r) op = (q.2, true) := if_pos h
theorem fnd_no {q : Pl} {r : List Pl} {op : ByteArray} (h : (q.1.toList == op.toList) = false) : fnd (q :: r) op = fnd r op := if_neg (by rw [h]; exact Bool.false_ne_true)

def pls (fs : List Flt) : List Pl := fs.map (·.2)
theorem pls_drop {fs : List Flt} {k p : Nat} {op : ByteArray} {n : Int} (h : fs[k]? = some (p, op, n)) : pls (fs.drop k) = (op, n) :: pls (fs.drop (k + 1)) := by
  obtain ⟨hk, he⟩ := List.getElem?_eq_some_iff.1 h
  rw [List.drop_eq_getElem_cons hk, he]
  rfl

/-- The places' texts. -/
def plcs (l : List Pl) : List Value := l.map fun q => .string (str (plc q.1 q.2))
theorem plcs_length (l : List Pl) : (plcs l).length = l.length := by simp [plcs]
theorem plcs_get {l : List Pl} {k : Nat} {q : Pl} (h : l[k]? = some q) : (plcs l)[k]? = some (.string (str (plc q.1 q.2))) := by simp [plcs, h]
theorem pls_get {fs : List Flt} {k : Nat} {f : Flt} (h : fs[k]? = some f) : (pls fs)[k]? = some f.2 := by simp [pls, h]
theorem pls_length (fs : List Flt) : (pls fs).length = fs.length := by simp [pls]

theorem str_info : (Tryd.prog.info? 9).map (fun i => (i.zero, i.size, i.bytes)) = some (some (.string ⟨#[]⟩), 1, 16) := by kernel_rfl

end Go.Proofs.YtidojlagdodkkabDoor.Fa
