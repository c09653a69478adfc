/-
  Proved: for every a and b the call FaultWords(a, b) returns true and changes no argument: each number has a word, unlike ones unlike words; numbers that are none have a question mark; what is wrapped ends with the word. Condition: the library's variable errors.errorType holds its own type's handle.
-/
import Derived.Test.YtknnalcnoccleaaDoorFaWrap
namespace Go.Proofs.YtknnalcnoccleaaDoor.Fa
open Go.RowKit
open Pk Sm

set_option maxHeartbeats 2000000 in
theorem RWord_any (k : Int) (w : World) :
    Calls Tryd.prog 28 #[.int .i64 k] w fun r w' => r = .returned (.string (str (word k))) ∧ Below w.heap.size w w' := by
  have hb : ∀ o, Hid (Below w.heap.size w (w.alloc o)) := fun o => (Below.refl _ _).alloc (Nat.le_refl _) o
  by_cases h0 : k < 0
  · have hw : word k = [63] := by unfold word; rw [if_pos (Or.inl h0)]
    rw [hw]
    clear hw
    go_enter Tryd.func28, Tryd.ntmps28
    go_wp2
    go_ret
    exact ⟨rfl, (hb _).out⟩
  by_cases h1 : 13 ≤ k
  · have hw : word k = [63] := by unfold word; rw [if_pos (Or.inr h1)]
    rw [hw]
    clear hw
    go_enter Tryd.func28, Tryd.ntmps28
    go_wp2
    go_ret
    exact ⟨rfl, (hb _).out⟩
  rcases thirteen k h0 h1 with rfl | rfl | rfl | rfl | rfl | rfl | rfl | rfl | rfl | rfl | rfl | rfl | rfl
  all_goals
    clear h0 h1
    go_enter Tryd.func28, Tryd.ntmps28
    go_wp2
    go_ret
    exact ⟨rfl, (hb _).out⟩

theorem word_none {k : Int} (h : k < 0 ∨ 13 ≤ k) : word k = [63] := by unfold word; rw [if_pos h]
theorem word_some {k : Int} (h0 : ¬ k < 0) (h1 : ¬ 13 ≤ k) : word k ≠ [63] := by
  rcases thirteen k h0 h1 with rfl | rfl | rfl | rfl | rfl | rfl | rfl | rfl | rfl | rfl | rfl | rfl | rfl <;> decide
/-- Unlike numbers have unlike words. -/
theorem word_inj {a b : Int} (ha0 : ¬ a < 0) (ha1 : ¬ 13 ≤ a) (hne : a ≠ b) : word a ≠ word b := by
  by_cases hb : b < 0 ∨ 13 ≤ b
  · rw [word_none hb]
    exact word_some ha0 ha1
  · have hb0 : ¬ b < 0 := fun h => hb (Or.inl h)
    have hb1 : ¬ 13 ≤ b := fun h => hb (Or.inr h)
    have key : ∀ i j : Fin 13, i ≠ j → word (i.val : Int) ≠ word (j.val : Int) := by decide
    have := key ⟨a.toNat, by omega⟩ ⟨b.toNat, by omega⟩ (by intro h; simp at h; omega)
    simpa [Int.toNat_of_nonneg (show 0 ≤ a by omega), Int.toNat_of_nonneg (show 0 ≤ b by omega)] using this

theorem words_text (p : Nat) (k : Int) : pth [(p, ⟨#[120]⟩, 0)] ++ word k = [120, 32, 48, 58, 32] ++ word k := by
  have h0 : Lib.itoa 0 = [48] := itoa_one 0 (by decide)
  simp only [pth, plc, h0]
  rfl

set_option maxHeartbeats 2000000 in
theorem Words_zero (b : Int) (w : World) (hty : Ety w) :
    Calls Tryd.prog 8 #[.int .i64 0, .int .i64 b] w fun e w' => e = .returned (.bool true) ∧ Below w.heap.size w w' := by
  have HA := hide (awake_any w hty)
  have HX := hide (Word_any 0)
  have HY := hide (Word_any b)
  have HR := hide (RWord_any 0)
  obtain ⟨X, hX⟩ : ∃ S, S = str (word 0) := ⟨_, rfl⟩
  obtain ⟨Y, hY⟩ : ∃ S, S = str (word b) := ⟨_, rfl⟩
  rw [← hX] at HX HR
  rw [← hY] at HY
  have hX1 : X.toList = [111, 107] := by rw [hX, str_toList]; rfl
  have hXY : ¬ (0 : Int) = b → ([111, 107] == Y.toList) = false := fun h => by
    rw [hY, str_toList]
    have : ([111, 107] : List UInt8) = word 0 := rfl
    rw [this]
    simpa using word_inj (by decide) (by decide) h
  clear hX hY hty
  go_enter Tryd.func8, Tryd.ntmps8
  go_wp2_with fail
  refine HA.out.mono ?_
  rintro r w1 ⟨rfl, hb1⟩
  go_wp2_with fail
  refine (HX.out w1).mono ?_
  rintro r w2 ⟨rfl, hb2⟩
  go_wp2_with fail
  refine (HY.out w2).mono ?_
  rintro r w3 ⟨rfl, hb3⟩
  go_wp2_with fail
  refine (HR.out w3).mono ?_
  rintro r w4 ⟨rfl, hb4⟩
  go_wp2_with fail
  refine (Wrap_ok _ _ w4).mono ?_
  rintro r w5 ⟨rfl, rfl⟩
  have HB := hide (((hb1.trans (hb2.mono hb1.size)).trans (hb3.mono (Nat.le_trans hb1.size hb2.size))).trans (hb4.mono (Nat.le_trans (Nat.le_trans hb1.size hb2.size) hb3.size)))
  clear hb1 hb2 hb3 hb4 HA HX HY HR
  by_cases h : (0 : Int) = b
  · subst h
    clear hXY
    go_wp2
    go_ret
    exact ⟨rfl, HB.out⟩
  · have hq := hXY h
    clear hXY
    go_wp2
    go_ret
    exact ⟨rfl, HB.out⟩

end Go.Proofs.YtknnalcnoccleaaDoor.Fa
