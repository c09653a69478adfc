/-
  fault.Wrap: nil and OK stay nil; around any other error a new fault. Nothing that was there is changed.
-/
import Derived.Test.YthoflpjmdhabmaaDoorFaCode
namespace Go.Proofs.YthoflpjmdhabmaaDoor.Fa
open Go.RowKit Go.Stop
open Pk Sm

theorem Wrap_nil (op : ByteArray) (n : Int) (w : World) :
    Calls Tryd.prog 47 #[.string op, .int .i64 n, .nilIface] w fun r w' => r = .returned .nilIface ∧ w' = w := by
  go_enter Tryd.func47, Tryd.ntmps47
  go_wp2
  go_ret
  exact ⟨rfl, rfl⟩

theorem Wrap_ok (op : ByteArray) (n : Int) (w : World) :
    Calls Tryd.prog 47 #[.string op, .int .i64 n, .iface 52 (.int .i64 0)] w fun r w' => r = .returned .nilIface ∧ w' = w := by
  have he := eql_errno 0 0
  go_enter Tryd.func47, Tryd.ntmps47
  go_wp2
  go_ret
  exact ⟨rfl, rfl⟩

/-- An error that is neither nil nor OK. -/
def Real (e : Value) : Prop := ∃ T v, e = .iface T v ∧ (T ≠ 52 ∨ (T = 52 ∧ ∃ k : Int, v = .int .i64 k ∧ k ≠ 0))
theorem Real.num {k : Int} (h : k ≠ 0) : Real (.iface 52 (.int .i64 k)) := ⟨_, _, rfl, Or.inr ⟨rfl, k, rfl, h⟩⟩
theorem Real.flt (v : Value) : Real (.iface 86 v) := ⟨_, _, rfl, Or.inl (by decide)⟩
theorem Real.eql {e : Value} (h : Real e) (w : World) : (binOp .eql 27 e (.iface 52 (.int .i64 0))).run Tryd.prog w = .ok (.bool false) w := by
  obtain ⟨T, v, rfl, h⟩ := h
  rcases h with h | ⟨rfl, k, rfl, h⟩
  · exact run_eql_iface_types T 52 v _ Tryd.underlying27 h w
  · rw [eql_errno]
    simp [h]

theorem Wrap_real (op : ByteArray) (n : Int) (e : Value) (w : World) (he : Real e) :
    Calls Tryd.prog 47 #[.string op, .int .i64 n, e] w fun r w' => r = .returned (.iface 86 (.pointer (some ⟨w.heap.size, 0, none⟩))) ∧ w' = w.alloc (.cells #[.string op, .int .i64 n, e] 88) := by
  have hq := he.eql
  obtain ⟨T, v, rfl, _⟩ := he
  go_enter Tryd.func47, Tryd.ntmps47
  go_wp2
  go_ret
  exact ⟨rfl, rfl⟩

/-- The wrapped error in memory. -/
theorem Chain.wrap {w : World} {fs : List Flt} {e i : Value} (h : Chain w fs e i) (op : ByteArray) (n : Int) :
    Chain (w.alloc (.cells #[.string op, .int .i64 n, e] 88)) ((w.heap.size, op, n) :: fs) (.iface 86 (.pointer (some ⟨w.heap.size, 0, none⟩))) i :=
  ⟨rfl, e, heap_alloc_new w _, h.below (Nat.le_refl _) ((Below.refl _ _).alloc (Nat.le_refl _) _)⟩

end Go.Proofs.YthoflpjmdhabmaaDoor.Fa
