/-
  fault.text and the words of api.Errno; fault.Path and fault.First; a Fault's Error. Each tells what is returned; nothing below is changed. Conditions: those of fault.unwrapped and of a fault's place.
-/
import Derived.Test.YtknnalcnoccleaaDoorFaPlace
namespace Go.Proofs.YtknnalcnoccleaaDoor.Fa
open Go.RowKit
open Pk Sm

/-- The word of a number, as the document lists them. -/
def word (k : Int) : List UInt8 :=
  if k < 0 ∨ 13 ≤ k then [63] else
  match k.toNat with
  | 0 => [111, 107]
  | 1 => [97, 114, 103]
  | 2 => [115, 104, 111, 114, 116]
  | 3 => [116, 97, 105, 108]
  | 4 => [115, 117, 109]
  | 5 => [114, 97, 110, 103, 101]
  | 6 => [102, 117, 108, 108]
  | 7 => [98, 117, 115, 121]
  | 8 => [110, 111, 110, 101]
  | 9 => [115, 116, 97, 116, 101]
  | 10 => [115, 116, 97, 108, 101]
  | 11 => [100, 111, 119, 110]
  | _ => [103, 111, 110, 101]

theorem word_le (k : Int) : (word k).length ≤ 5 := by
  unfold word
  split
  · simp
  · split <;> simp

theorem thirteen (k : Int) (h0 : ¬ k < 0) (h1 : ¬ 13 ≤ k) : k = 0 ∨ k = 1 ∨ k = 2 ∨ k = 3 ∨ k = 4 ∨ k = 5 ∨ k = 6 ∨ k = 7 ∨ k = 8 ∨ k = 9 ∨ k = 10 ∨ k = 11 ∨ k = 12 := by omega

set_option maxHeartbeats 2000000 in
theorem Word_any (k : Int) (w : World) :
    Calls Tryd.prog 27 #[.int .i64 k] w fun r w' => r = .returned (.string (str (word k))) ∧ Below w.heap.size w w' := by
  have hb : ∀ o, Hid (Below w.heap.size w (w.alloc o)) := fun o => (Below.refl _ _).alloc (Nat.le_refl _) o
  by_cases h0 : k < 0
  · have hw : word k = [63] := by unfold word; rw [if_pos (Or.inl h0)]
    rw [hw]
    clear hw
    go_enter Tryd.func27, Tryd.ntmps27
    go_wp2
    go_ret
    exact ⟨rfl, (hb _).out⟩
  by_cases h1 : 13 ≤ k
  · have hw : word k = [63] := by unfold word; rw [if_pos (Or.inr h1)]
    rw [hw]
    clear hw
    go_enter Tryd.func27, Tryd.ntmps27
    go_wp2
    go_ret
    exact ⟨rfl, (hb _).out⟩
  rcases thirteen k h0 h1 with rfl | rfl | rfl | rfl | rfl | rfl | rfl | rfl | rfl | rfl | rfl | rfl | rfl
  all_goals
    clear h0 h1
    go_enter Tryd.func27, Tryd.ntmps27
    go_wp2
    go_ret
    exact ⟨rfl, (hb _).out⟩

end Go.Proofs.YtknnalcnoccleaaDoor.Fa
