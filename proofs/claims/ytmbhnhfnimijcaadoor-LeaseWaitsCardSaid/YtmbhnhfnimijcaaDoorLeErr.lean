/-
  The fault that a lease returns; the contracts of fault.Wrap around a number, and of lease.failed. Nothing that was there is changed.
-/
import Derived.Laws.Pointers
import Derived.Test.YtmbhnhfnimijcaaDoorLeMem
namespace Go.Proofs.YtmbhnhfnimijcaaDoor.Le
open Go.RowKit
open Pk Dk Wn Lk

def nam : ByteArray := ⟨#[108, 101, 97, 115, 101]⟩
/-- The fault lease, r, around the number k, at a block. -/
def Flt (w : World) (p : Nat) (r k : Int) : Prop := w.heap[p]? = some (.cells #[.string nam, .int .i64 r, .iface 59 (.int .i64 k)] 74 (0, 0))
theorem Flt.lt {w : World} {p : Nat} {r k : Int} (h : Flt w p r k) : p < w.heap.size := (Array.getElem?_eq_some_iff.1 h).1
theorem Flt.below {w w' : World} {p : Nat} {r k : Int} (h : Flt w p r k) (hb : Below w.heap.size w w') : Flt w' p r k := (hb.block p h.lt).trans h
theorem eq_num_in (d : Nat) (a b : Int) (w : World) : (Op.equalIn (d + 2) 42 (.iface 59 (.int .i64 a)) (.iface 59 (.int .i64 b))).run Tryd.prog w = .ok (a == b) w := by
  obtain ⟨i, hi, hic⟩ := Option.map_eq_some_iff.1 (show (Tryd.prog.info? 59).map (·.comparable) = some true by kernel_rfl)
  simp [Op.equalIn, run_underlying Tryd.underlying42, run_underlying Tryd.underlying59, typeInfo, hi, hic]
theorem eq_num (a b : Int) (w : World) : (binOp .eql 42 (.iface 59 (.int .i64 a)) (.iface 59 (.int .i64 b))).run Tryd.prog w = .ok (.bool (a == b)) w := by
  have h : (Op.equalIn 10000 42 (.iface 59 (.int .i64 a)) (.iface 59 (.int .i64 b))).run Tryd.prog w = .ok (a == b) w := eq_num_in 9998 a b w
  simp only [binOp]
  simp [Op.equal, Op.maxDepth, h]

set_option maxRecDepth 100000 in
/-- A fault around a number. -/
theorem Wrap_num (op : ByteArray) (n k : Int) (w : World) (hk : (k == 0) = false) :
    Calls Tryd.prog 32 #[.string op, .int .i64 n, .iface 59 (.int .i64 k)] w fun r w' => r = .returned (.iface 72 (.pointer (some ⟨w.heap.size, 0, none⟩))) ∧ w' = w.alloc (.cells #[.string op, .int .i64 n, .iface 59 (.int .i64 k)] 74) := by
  have hq := eq_num k 0
  rw [hk] at hq
  clear hk
  go_enter Tryd.func32, Tryd.ntmps32
  go_wp2
  go_ret
  exact ⟨rfl, rfl⟩

/-- What is returned beside an error: nothing is changed. -/
def Fails (w : World) (r k : Int) (p : Nat) (w' : World) : Prop := Flt w' p r k ∧ Below w.heap.size w w'
set_option maxRecDepth 100000 in
theorem failed_any (r k : Int) (w : World) (hk : (k == 0) = false) :
    Calls Tryd.prog 24 #[.int .i64 r, .int .i64 k] w fun e w' => ∃ p, e = .returned (.iface 72 (.pointer (some ⟨p, 0, none⟩))) ∧ Fails w r k p w' := by
  have HK := hide hk
  clear hk
  go_enter Tryd.func24, Tryd.ntmps24
  go_wp2_with fail
  refine (Wrap_num _ r k w HK.out).mono ?_
  rintro e w' ⟨rfl, hw⟩
  have HF : Hid (Fails w r k w.heap.size w') := by rw [hw]; exact ⟨heap_alloc_new w _, (Below.refl _ _).alloc (Nat.le_refl _) _⟩
  clear hw
  go_wp2
  go_ret
  exact ⟨_, rfl, HF.out⟩

/-- What a call answers: nil, or the fault around a number that is not 0. -/
def Err (w : World) (v : Value) (r k : Int) : Prop := (k = 0 ∧ v = .nilIface) ∨ (k ≠ 0 ∧ ∃ p, v = .iface 72 (.pointer (some ⟨p, 0, none⟩)) ∧ Flt w p r k)
theorem Err.below {w w' : World} {v : Value} {r k : Int} (h : Err w v r k) (hb : Below w.heap.size w w') : Err w' v r k := by
  rcases h with h | ⟨h1, p, h2, h3⟩
  · exact Or.inl h
  · exact Or.inr ⟨h1, p, h2, h3.below hb⟩
theorem Err.ok {w : World} {v : Value} {r : Int} (h : Err w v r 0) : v = .nilIface := by
  rcases h with ⟨_, h⟩ | ⟨h, _⟩
  · exact h
  · exact absurd rfl h
theorem Err.no {w : World} {v : Value} {r k : Int} (h : Err w v r k) (hk : k ≠ 0) : ∃ p, v = .iface 72 (.pointer (some ⟨p, 0, none⟩)) ∧ Flt w p r k := by
  rcases h with ⟨h, _⟩ | ⟨_, h⟩
  · exact absurd h hk
  · exact h
theorem Err.two {w : World} {v : Value} {r k : Int} (h : Err w v r k) : v = .nilIface ∨ ∃ p, v = .iface 72 (.pointer (some ⟨p, 0, none⟩)) := by
  rcases h with ⟨_, h⟩ | ⟨_, p, h, _⟩
  · exact Or.inl h
  · exact Or.inr ⟨p, h⟩

end Go.Proofs.YtmbhnhfnimijcaaDoor.Le
