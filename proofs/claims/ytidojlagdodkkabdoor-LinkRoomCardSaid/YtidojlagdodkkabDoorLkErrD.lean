/-
  fault.First and fault.Code at what a link returns: the fault link around a number, or nil. Nothing is changed. Condition: the library's variable errors.errorType holds what the program's own text lays.
-/
import Derived.Test.YtidojlagdodkkabDoorFaPathB
import Derived.Test.YtidojlagdodkkabDoorLkErr
namespace Go.Proofs.YtidojlagdodkkabDoor.Lk
open Go.RowKit
open Pk Sm Fa Dk Wn

theorem Flt.chain {w : World} {p : Nat} {r k : Int} (h : Flt w p r k) : Chain w [(p, nam, r)] (.iface 45 (.pointer (some ⟨p, 0, none⟩))) (.iface 28 (.int .i64 k)) := ⟨rfl, _, h, rfl⟩
theorem Code_flt {w : World} {p : Nat} {r k : Int} (hty : Ety w) (h : Flt w p r k) :
    Calls Tryd.prog 7 #[.iface 45 (.pointer (some ⟨p, 0, none⟩))] w fun e w' => e = .returned (.int .i64 k) ∧ Below w.heap.size w w' :=
  Code_any _ _ _ k w hty h.chain (Or.inr rfl) (by simp)
theorem Code_none {w : World} (hty : Ety w) : Calls Tryd.prog 7 #[.nilIface] w fun e w' => e = .returned (.int .i64 0) ∧ Below w.heap.size w w' :=
  Code_any [] _ _ 0 w hty rfl (Or.inl ⟨rfl, rfl⟩) (by simp)

end Go.Proofs.YtidojlagdodkkabDoor.Lk
