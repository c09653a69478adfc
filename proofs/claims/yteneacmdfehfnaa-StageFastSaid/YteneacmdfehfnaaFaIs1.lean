/-
  fault.asFault and fault.asNumber: an error that is itself a fault, or a number; the deferred recover finds nothing. Nothing below is changed. Condition: the library's variable errors.errorType holds its own type's handle.
-/
import Derived.Defers
import Derived.Recover
import Derived.Laws.Pointers
import Derived.WalkKit
import Derived.LaidEql
import Derived.Stop.Asserts
import Derived.RowKitTokens
import Derived.Below
import Derived.Test.YteneacmdfehfnaaPkMem
namespace Go.Proofs.Yteneacmdfehfnaa.Fa
open Go.RowKit
open Pk

theorem heap_lt {w : World} {g : Nat} {o : Obj} (h : w.heap[g]? = some o) : g < w.heap.size := (Array.getElem?_eq_some_iff.1 h).1

theorem neq_fault (p : Addr) (w : World) : (binOp .neq 42 (.iface 57 (.pointer (some p))) (.iface 57 (.pointer (some p)))).run Try.prog w = .ok (.bool false) w := by
  obtain ⟨i, hi, hic⟩ := Option.map_eq_some_iff.1 (show (Try.prog.info? 57).map (·.comparable) = some true by kernel_rfl)
  obtain ⟨j, hj, _⟩ := Option.map_eq_some_iff.1 (show (Try.prog.info? 59).map (·.size) = some 3 by kernel_rfl)
  have h : (Op.equalIn 10000 42 (.iface 57 (.pointer (some p))) (.iface 57 (.pointer (some p)))).run Try.prog w = .ok true w := run_equalIn_iface_ptr_same (P := Try.prog) w 9998 (ti := 42) (tp := 57) (te := 59) p Try.underlying42 Try.underlying57 hi hic hj
  simp only [binOp]
  simp [Op.equal, Op.maxDepth, h]
theorem eq_int_in (d : Nat) (a b : Int) (w : World) : (Op.equalIn (d + 2) 42 (.iface 54 (.int .i64 a)) (.iface 54 (.int .i64 b))).run Try.prog w = .ok (a == b) w := by
  obtain ⟨i, hi, hic⟩ := Option.map_eq_some_iff.1 (show (Try.prog.info? 54).map (·.comparable) = some true by kernel_rfl)
  simp [Op.equalIn, run_underlying Try.underlying42, run_underlying Try.underlying54, typeInfo, hi, hic]
theorem eq_int (a b : Int) (w : World) : (Op.equalIn 10000 42 (.iface 54 (.int .i64 a)) (.iface 54 (.int .i64 b))).run Try.prog w = .ok (a == b) w := eq_int_in 9998 a b w
theorem eql_errno (a b : Int) (w : World) : (binOp .eql 42 (.iface 54 (.int .i64 a)) (.iface 54 (.int .i64 b))).run Try.prog w = .ok (.bool (a == b)) w := by
  simp only [binOp]
  simp [Op.equal, Op.maxDepth, eq_int]
theorem neq_errno (a : Int) (w : World) : (binOp .neq 42 (.iface 54 (.int .i64 a)) (.iface 54 (.int .i64 a))).run Try.prog w = .ok (.bool false) w := by
  simp only [binOp]
  simp [Op.equal, Op.maxDepth, eq_int]

end Go.Proofs.Yteneacmdfehfnaa.Fa
