/-
  fault.First and fault.Code at what a group returns: the fault member around a number, or nil. Nothing is changed. Condition: the library's variable errors.errorType holds what the program's own text lays.
-/
import Derived.Test.YthoflpjmdhabmaaDoorFaPathB
import Derived.Test.YthoflpjmdhabmaaDoorMbErr
namespace Go.Proofs.YthoflpjmdhabmaaDoor.Mb
open Go.RowKit
open Pk Sm Fa Dk Wn Lk

theorem Flt.chain {w : World} {p : Nat} {r k : Int} (h : Flt w p r k) : Chain w [(p, nam, r)] (.iface 86 (.pointer (some ⟨p, 0, none⟩))) (.iface 52 (.int .i64 k)) := ⟨rfl, _, h, rfl⟩
theorem First_flt {w : World} {p : Nat} {r k : Int} (hty : Ety w) (h : Flt w p r k) :
    Calls Tryd.prog 32 #[.iface 86 (.pointer (some ⟨p, 0, none⟩)), .string nam] w fun e w' => e = .returned (.tuple #[.int .i64 r, .bool true]) ∧ Below w.heap.size w w' := by
  have hF := First_any _ _ _ nam _ w rfl hty h.chain (Or.inr ⟨k, rfl⟩) (by simp)
  have hf : Fa.fnd (pls [(p, nam, r)]) nam = (r, true) := fnd_yes (by simp)
  rw [hf] at hF
  exact hF
theorem First_none {w : World} (hty : Ety w) : Calls Tryd.prog 32 #[.nilIface, .string nam] w fun e w' => e = .returned (.tuple #[.int .i64 0, .bool false]) ∧ Below w.heap.size w w' :=
  First_any [] _ _ nam _ w rfl hty rfl (Or.inl rfl) (by simp)
theorem Code_flt {w : World} {p : Nat} {r k : Int} (hty : Ety w) (h : Flt w p r k) :
    Calls Tryd.prog 25 #[.iface 86 (.pointer (some ⟨p, 0, none⟩))] w fun e w' => e = .returned (.int .i64 k) ∧ Below w.heap.size w w' :=
  Code_any _ _ _ k w hty h.chain (Or.inr rfl) (by simp)
theorem Code_none {w : World} (hty : Ety w) : Calls Tryd.prog 25 #[.nilIface] w fun e w' => e = .returned (.int .i64 0) ∧ Below w.heap.size w w' :=
  Code_any [] _ _ 0 w hty rfl (Or.inl ⟨rfl, rfl⟩) (by simp)

end Go.Proofs.YthoflpjmdhabmaaDoor.Mb
