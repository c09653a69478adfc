/-
  fault.Wrap: nil and OK stay nil; around any other error a new fault. Nothing that was there is changed.
-/
import Derived.Test.YtmbhnhfnimijcaaDoorFaCode
namespace Go.Proofs.YtmbhnhfnimijcaaDoor.Fa
open Go.RowKit Go.Stop
open Pk Sm

theorem Wrap_nil (op : ByteArray) (n : Int) (w : World) :
    Calls Tryd.prog 32 #[.string op, .int .i64 n, .nilIface] w fun r w' => r = .returned .nilIface ∧ w' = w := by
  go_enter Tryd.func32, Tryd.ntmps32
  go_wp2
  go_ret
  exact ⟨rfl, rfl⟩

theorem Wrap_ok (op : ByteArray) (n : Int) (w : World) :
    Calls Tryd.prog 32 #[.string op, .int .i64 n, .iface 59 (.int .i64 0)] w fun r w' => r = .returned .nilIface ∧ w' = w := by
  have he := eql_errno 0 0
  go_enter Tryd.func32, Tryd.ntmps32
  go_wp2
  go_ret
  exact ⟨rfl, rfl⟩

/-- An error that is neither nil nor OK. -/
def Real (e : Value) : Prop := ∃ T v, e = .iface T v ∧ (T ≠ 59 ∨ (T = 59 ∧ ∃ k : Int, v = .int .i64 k ∧ k ≠ 0))
theorem Real.num {k : Int} (h : k ≠ 0) : Real (.iface 59 (.int .i64 k)) := ⟨_, _, rfl, Or.inr ⟨rfl, k, rfl, h⟩⟩
theorem Real.flt (v : Value) : Real (.iface 72 v) := ⟨_, _, rfl, Or.inl (by decide)⟩
theorem Real.eql {e : Value} (h : Real e) (w : World) : (binOp .eql 42 e (.iface 59 (.int .i64 0))).run Tryd.prog w = .ok (.bool false) w := by
  obtain ⟨T, v, rfl, h⟩ := h
  rcases h with h | ⟨rfl, k, rfl, h⟩
  · exact run_eql_iface_types T 59 v _ Tryd.underlying42 h w
  · rw [eql_errno]
    simp [h]

theorem Wrap_real (op : ByteArray) (n : Int) (e : Value) (w : World) (he : Real e) :
    Calls Tryd.prog 32 #[.string op, .int .i64 n, e] w fun r w' => r = .returned (.iface 72 (.pointer (some ⟨w.heap.size, 0, none⟩))) ∧ w' = w.alloc (.cells #[.string op, .int .i64 n, e] 74) := by
  have hq := he.eql
  obtain ⟨T, v, rfl, _⟩ := he
  go_enter Tryd.func32, Tryd.ntmps32
  go_wp2
  go_ret
  exact ⟨rfl, rfl⟩

/-- The wrapped error in memory. -/
theorem Chain.wrap {w : World} {fs : List Flt} {e i : Value} (h : Chain w fs e i) (op : ByteArray) (n : Int) :
    Chain (w.alloc (.cells #[.string op, .int .i64 n, e] 74)) ((w.heap.size, op, n) :: fs) (.iface 72 (.pointer (some ⟨w.heap.size, 0, none⟩))) i :=
  ⟨rfl, e, heap_alloc_new w _, h.below (Nat.le_refl _) ((Below.refl _ _).alloc (Nat.le_refl _) _)⟩

end Go.Proofs.YtmbhnhfnimijcaaDoor.Fa
