/-
  fault.First and fault.Code at what a stage returns: the fault stage around ErrNone, or nil. Nothing is changed. Condition: the library's variable errors.errorType holds what the program's own text lays.
-/
import Derived.Test.YteneacmdfehfnaaDoorFaPathB
import Derived.Test.YteneacmdfehfnaaDoorSgMore
namespace Go.Proofs.YteneacmdfehfnaaDoor.Sg
open Go.RowKit
open Pk Sm Fa Dk Wn Lk

theorem First_sflt {w : World} {v : Value} {r : Int} (hty : Ety w) (h : SFlt w v r) :
    Calls Tryd.prog 19 #[v, .string snam] w fun e w' => e = .returned (.tuple #[.int .i64 r, .bool true]) ∧ Below w.heap.size w w' := by
  obtain ⟨p, rfl, hc⟩ := h
  have hF := First_any _ _ _ snam _ w rfl hty hc (Or.inr ⟨8, rfl⟩) (by simp)
  have hf : Fa.fnd (pls [(p, snam, r)]) snam = (r, true) := fnd_yes (by simp)
  rw [hf] at hF
  exact hF
theorem First_none {w : World} (hty : Ety w) : Calls Tryd.prog 19 #[.nilIface, .string snam] w fun e w' => e = .returned (.tuple #[.int .i64 0, .bool false]) ∧ Below w.heap.size w w' :=
  First_any [] _ _ snam _ w rfl hty rfl (Or.inl rfl) (by simp)
theorem Code_sflt {w : World} {v : Value} {r : Int} (hty : Ety w) (h : SFlt w v r) :
    Calls Tryd.prog 20 #[v] w fun e w' => e = .returned (.int .i64 8) ∧ Below w.heap.size w w' := by
  obtain ⟨p, rfl, hc⟩ := h
  exact Code_any _ _ _ 8 w hty hc (Or.inr rfl) (by simp)
theorem Code_none {w : World} (hty : Ety w) : Calls Tryd.prog 20 #[.nilIface] w fun e w' => e = .returned (.int .i64 0) ∧ Below w.heap.size w w' :=
  Code_any [] _ _ 0 w hty rfl (Or.inl ⟨rfl, rfl⟩) (by simp)
theorem SFlt.below {w w' : World} {v : Value} {r : Int} (h : SFlt w v r) (hb : Below w.heap.size w w') : SFlt w' v r := by
  obtain ⟨p, rfl, hc⟩ := h
  exact ⟨p, rfl, hc.below (Nat.le_refl _) hb⟩

end Go.Proofs.YteneacmdfehfnaaDoor.Sg
