/-
  Proved: for every l, code and other the call FaultFinds(l, code, other) returns true and changes no argument: the library finds the number in a wrapped error, and no other one, and the outermost fault; and so does Is. Condition: the library's variable errors.errorType holds its own type's handle.
-/
import Derived.Test.YtknnalcnoccleaaDoorFaFinds
import Derived.Deep.QuietTactic
namespace Go.Proofs.YtknnalcnoccleaaDoor.Fa
open Go.RowKit Go.Deep
open Pk Sm

theorem neq_self {w : World} {fs : List Flt} {e : Value} {k : Int} (h : Chain w fs e (.iface 28 (.int .i64 k))) (W : World) : (binOp .neq 26 e e).run Tryd.prog W = .ok (.bool false) W := by
  cases fs with
  | nil =>
    obtain rfl := h
    exact neq_errno k W
  | cons q r =>
    obtain ⟨rfl, _⟩ := h
    exact neq_fault _ W

set_option maxHeartbeats 1000000 in
theorem Finds_out (A : Option Addr) (n c : Nat) (l : List Pl) (code other : Int) (w : World) (hty : Ety w) (hl : l.length = n) (hp : Pls w w.heap.size A l) (hf : Fit l) (hno : ¬ Few l ∨ code = 0) :
    Calls Tryd.prog 4 #[.slice A n c, .int .i64 code, .int .i64 other] w fun e w' => e = .returned (.bool true) ∧ Below w.heap.size w w' := by
  have HA := hide (awake_any w hty)
  have HF := hide fun (w1 : World) (hb : Below w.heap.size w w1) => few_any A n c l w1 hl ((hp.below hb).more hb.size) hf
  have HA2 := hide fun (w1 : World) (hb : Below w.heap.size w w1) => awake_any w1 (hty.below hb hty.lt)
  have Hno := hide hno
  clear hty hl hp hf hno
  go_enter Tryd.func4, Tryd.ntmps4
  go_wp2_with fail
  refine HA.out.mono ?_
  rintro r w1 ⟨rfl, hb1⟩
  go_wp2_with fail
  refine (HF.out w1 hb1).mono ?_
  rintro r w2 ⟨⟨b, rfl, hb⟩, rfl⟩
  have HB := hide hb1
  have Hb := hide hb
  have HA3 := hide (HA2.out w2 hb1)
  clear hb hb1 HA HF HA2
  cases b with
  | false =>
    go_wp2_with fail
    refine HA3.out.mono ?_
    rintro r w3 ⟨rfl, hb3⟩
    have HB3 := hide (HB.out.trans (hb3.mono HB.out.size))
    clear hb3
    go_wp2
    go_ret
    exact ⟨rfl, HB3.out⟩
  | true =>
    obtain rfl : code = 0 := by
      rcases Hno.out with h | h
      · exact absurd (Hb.out.1 rfl) h
      · exact h
    go_wp2_with fail
    refine HA3.out.mono ?_
    rintro r w3 ⟨rfl, hb3⟩
    have HB3 := hide (HB.out.trans (hb3.mono HB.out.size))
    clear hb3
    go_wp2
    go_ret
    exact ⟨rfl, HB3.out⟩

end Go.Proofs.YtknnalcnoccleaaDoor.Fa
