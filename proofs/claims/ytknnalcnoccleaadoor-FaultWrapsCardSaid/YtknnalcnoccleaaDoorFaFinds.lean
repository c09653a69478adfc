/-
  Proved: for every l, code and other the call FaultFinds(l, code, other) returns true and changes no argument: the library finds the number in a wrapped error, and no other one, and the outermost fault; and so does Is. Condition: the library's variable errors.errorType holds its own type's handle.
-/
import Derived.Test.YtknnalcnoccleaaDoorFaIsc
namespace Go.Proofs.YtknnalcnoccleaaDoor.Fa
open Go.RowKit
open Pk Sm

theorem Pls.more {W : World} {B B' : Nat} {A : Option Addr} {l : List Pl} (h : Pls W B A l) (hB : B ≤ B') : Pls W B' A l := fun hl => by
  obtain ⟨b, o, e, hb, hc⟩ := h hl
  exact ⟨b, o, e, by omega, hc⟩

/-- The chain's outermost fault, where there is one. -/
theorem Laid.head {fs : List Flt} {l : List Pl} {p : Nat} {op : ByteArray} {n : Int} {r : List Flt} (h : Laid fs l) (hf : fs = (p, op, n) :: r) : l[l.length - 1]? = some (op, n) := by
  subst hf
  have h1 : l.reverse[0]? = some (op, n) := by rw [← h]; rfl
  have hne : 0 < l.length := by
    rcases Nat.eq_zero_or_pos l.length with h0 | h0
    · rw [List.eq_nil_of_length_eq_zero h0] at h1
      simp at h1
    · exact h0
  rw [List.getElem?_reverse hne] at h1
  simpa using h1

/-- fault.Is at a wrapped number. -/
theorem FIs_num (fs : List Flt) (e0 : Value) (k j : Int) (w : World) (hk : k ≠ 0) (hty : Ety w) (hch : Chain w fs e0 (.iface 28 (.int .i64 k))) (hlen : fs.length ≤ 60000) :
    Calls Tryd.prog 14 #[e0, .int .i64 j] w fun r w' => r = .returned (.bool (k == j)) ∧ Below w.heap.size w w' := by
  have HC := hide (Code_any fs e0 _ k w hty hch (Or.inr (Or.inl rfl)) hlen)
  have Hch := hide hch
  have h0 : ¬ k = 0 := hk
  clear hch hty hlen hk
  by_cases hj : j = 0
  · subst hj
    have hkj : (k == 0) = false := by simpa using h0
    go_enter Tryd.func14, Tryd.ntmps14
    go_wp2_with fail
    refine HC.out.mono ?_
    rintro r w1 ⟨rfl, hb1⟩
    have HB := hide hb1
    clear hb1 HC
    go_wp2
    go_ret
    exact ⟨by rw [hkj]; rfl, HB.out⟩
  · have hk0 : (k == 0) = false := by simpa using h0
    have hj0 : (j == 0) = false := by simpa using hj
    go_enter Tryd.func14, Tryd.ntmps14
    go_wp2_with fail
    refine HC.out.mono ?_
    rintro r w1 ⟨rfl, hb1⟩
    have HI := hide (Is_chainN fs e0 (.int .i64 k) j (k == j) w1 (Hch.out.below (Nat.le_refl _) hb1) (fun W => eql_errno k j W))
    have HB := hide hb1
    clear hb1 HC
    go_wp2_with fail
    refine HI.out.mono ?_
    rintro r w2 ⟨rfl, rfl⟩
    go_wp2
    go_ret
    exact ⟨rfl, HB.out⟩

end Go.Proofs.YtknnalcnoccleaaDoor.Fa
