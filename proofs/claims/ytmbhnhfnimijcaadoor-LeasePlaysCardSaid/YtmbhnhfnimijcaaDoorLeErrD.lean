/-
  fault.First and fault.Code at what a lease returns: the fault lease around a number, or nil. Nothing is changed. Condition: the library's variable errors.errorType holds what the program's own text lays.
-/
import Derived.Test.YtmbhnhfnimijcaaDoorFaPathB
import Derived.Test.YtmbhnhfnimijcaaDoorLeErr
namespace Go.Proofs.YtmbhnhfnimijcaaDoor.Le
open Go.RowKit
open Pk Sm Fa Dk Wn Lk

theorem Flt.chain {w : World} {p : Nat} {r k : Int} (h : Flt w p r k) : Chain w [(p, nam, r)] (.iface 72 (.pointer (some ⟨p, 0, none⟩))) (.iface 59 (.int .i64 k)) := ⟨rfl, _, h, rfl⟩
theorem First_flt {w : World} {p : Nat} {r k : Int} (hty : Ety w) (h : Flt w p r k) :
    Calls Tryd.prog 23 #[.iface 72 (.pointer (some ⟨p, 0, none⟩)), .string nam] w fun e w' => e = .returned (.tuple #[.int .i64 r, .bool true]) ∧ Below w.heap.size w w' := by
  have hF := First_any _ _ _ nam _ w rfl hty h.chain (Or.inr ⟨k, rfl⟩) (by simp)
  have hf : Fa.fnd (pls [(p, nam, r)]) nam = (r, true) := fnd_yes (by simp)
  rw [hf] at hF
  exact hF
theorem First_none {w : World} (hty : Ety w) : Calls Tryd.prog 23 #[.nilIface, .string nam] w fun e w' => e = .returned (.tuple #[.int .i64 0, .bool false]) ∧ Below w.heap.size w w' :=
  First_any [] _ _ nam _ w rfl hty rfl (Or.inl rfl) (by simp)
theorem Code_flt {w : World} {p : Nat} {r k : Int} (hty : Ety w) (h : Flt w p r k) :
    Calls Tryd.prog 22 #[.iface 72 (.pointer (some ⟨p, 0, none⟩))] w fun e w' => e = .returned (.int .i64 k) ∧ Below w.heap.size w w' :=
  Code_any _ _ _ k w hty h.chain (Or.inr rfl) (by simp)
theorem Code_none {w : World} (hty : Ety w) : Calls Tryd.prog 22 #[.nilIface] w fun e w' => e = .returned (.int .i64 0) ∧ Below w.heap.size w w' :=
  Code_any [] _ _ 0 w hty rfl (Or.inl ⟨rfl, rfl⟩) (by simp)

theorem First_err {w : World} {v : Value} {r k : Int} (hty : Ety w) (h : Err w v r k) :
    Calls Tryd.prog 23 #[v, .string nam] w fun e w' => e = .returned (.tuple #[.int .i64 (if k = 0 then 0 else r), .bool (k != 0)]) ∧ Below w.heap.size w w' := by
  rcases h with ⟨rfl, rfl⟩ | ⟨hk, p, rfl, hF⟩
  · exact First_none hty
  · rw [if_neg hk, show (k != 0) = true by simp [hk]]
    exact First_flt hty hF
theorem Code_err {w : World} {v : Value} {r k : Int} (hty : Ety w) (h : Err w v r k) :
    Calls Tryd.prog 22 #[v] w fun e w' => e = .returned (.int .i64 k) ∧ Below w.heap.size w w' := by
  rcases h with ⟨rfl, rfl⟩ | ⟨hk, p, rfl, hF⟩
  · exact Code_none hty
  · exact Code_flt hty hF

end Go.Proofs.YtmbhnhfnimijcaaDoor.Le
