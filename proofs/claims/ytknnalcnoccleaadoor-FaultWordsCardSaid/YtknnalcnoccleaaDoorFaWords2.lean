/-
  Proved: for every a and b the call FaultWords(a, b) returns true and changes no argument: each number has a word, unlike ones unlike words; numbers that are none have a question mark; what is wrapped ends with the word. Condition: the library's variable errors.errorType holds its own type's handle.
-/
import Derived.Test.YtknnalcnoccleaaDoorFaWords
namespace Go.Proofs.YtknnalcnoccleaaDoor.Fa
open Go.RowKit
open Pk Sm

set_option maxHeartbeats 2000000 in
theorem Words_low (a b : Int) (w : World) (hty : Ety w) (h0 : a < 0) :
    Calls Tryd.prog 8 #[.int .i64 a, .int .i64 b] w fun e w' => e = .returned (.bool true) ∧ Below w.heap.size w w' := by
  have hm := methodErrF
  have HA := hide (awake_any w hty)
  have HX := hide (Word_any a)
  have HY := hide (Word_any b)
  have HR := hide (RWord_any a)
  have hwl := word_le a
  obtain ⟨X, hX⟩ : ∃ S, S = str (word a) := ⟨_, rfl⟩
  obtain ⟨Y, hY⟩ : ∃ S, S = str (word b) := ⟨_, rfl⟩
  obtain ⟨Z, hZ⟩ : ∃ S, S = str ([120, 32, 48, 58, 32] ++ word a) := ⟨_, rfl⟩
  rw [← hX] at HX HR
  rw [← hY] at HY
  have hadd : ∀ W : World, (Op.stringOp .add ⟨#[120, 32, 48, 58, 32]⟩ X).run Tryd.prog W = .ok (.string Z) W := fun W => by
    rw [hX, hZ]
    exact run_add [120, 32, 48, 58, 32] (word a) (by simp; omega) W
  have hX1 : X.toList = [63] := by rw [hX, str_toList]; exact word_none (Or.inl h0)
  have hn : ¬ a = 0 := by omega
  have Ha := hide (show a ≠ 0 by omega)
  have HZ := hide hZ
  have Hty := hide hty
  have Hwl := hide hwl
  clear hX hY hZ hty hwl
  go_enter Tryd.func8, Tryd.ntmps8
  go_wp2_with fail
  refine HA.out.mono ?_
  rintro r w1 ⟨rfl, hb1⟩
  go_wp2_with fail
  refine (HX.out w1).mono ?_
  rintro r w2 ⟨rfl, hb2⟩
  go_wp2_with fail
  refine (HY.out w2).mono ?_
  rintro r w3 ⟨rfl, hb3⟩
  go_wp2_with fail
  refine (HR.out w3).mono ?_
  rintro r w4 ⟨rfl, hb4⟩
  have HB := hide (((hb1.trans (hb2.mono hb1.size)).trans (hb3.mono (Nat.le_trans hb1.size hb2.size))).trans (hb4.mono (Nat.le_trans (Nat.le_trans hb1.size hb2.size) hb3.size)))
  have HW := hide (Wrap_real ⟨#[120]⟩ 0 (.iface 28 (.int .i64 a)) w4 (Real.num Ha.out))
  have hc := Chain.wrap (w := w4) (fs := []) (e := .iface 28 (.int .i64 a)) (i := .iface 28 (.int .i64 a)) rfl ⟨#[120]⟩ 0
  have hbw := HB.out.alloc HB.out.size (.cells #[.string ⟨#[120]⟩, .int .i64 0, .iface 28 (.int .i64 a)] 46)
  clear hb1 hb2 hb3 hb4 HA HX HY HR
  go_wp2_with fail
  refine HW.out.mono ?_
  rintro r w5 ⟨rfl, hw5⟩
  rw [← hw5] at hc hbw
  have hE := Error_any _ _ _ (word a) 1 w5 rfl (Hty.out.below hbw Hty.out.lt) hc (Or.inr (Or.inl ⟨a, rfl, rfl⟩)) (by
    intro f hf
    simp at hf
    obtain rfl := hf
    exact ⟨show (⟨#[120]⟩ : ByteArray).size ≤ 200 by decide, dig_small _ 0 (by decide) (by decide)⟩) (by decide) (by have := Hwl.out; omega)
  rw [words_text, ← HZ.out] at hE
  have HE := hide hE
  have HBW := hide hbw
  clear hw5 hc hbw hE HW HB
  go_wp2_with fail
  refine HE.out.mono ?_
  rintro r w6 ⟨rfl, hb6⟩
  have HB6 := hide (HBW.out.trans (hb6.mono HBW.out.size))
  clear HE hb6
  by_cases h : a = b
  · subst h
    go_wp2
    go_ret
    exact ⟨rfl, HB6.out⟩
  · go_wp2
    all_goals
      go_ret
      exact ⟨rfl, HB6.out⟩


set_option maxHeartbeats 2000000 in
theorem Words_high (a b : Int) (w : World) (hty : Ety w) (h1 : 13 ≤ a) :
    Calls Tryd.prog 8 #[.int .i64 a, .int .i64 b] w fun e w' => e = .returned (.bool true) ∧ Below w.heap.size w w' := by
  have hm := methodErrF
  have HA := hide (awake_any w hty)
  have HX := hide (Word_any a)
  have HY := hide (Word_any b)
  have HR := hide (RWord_any a)
  have hwl := word_le a
  obtain ⟨X, hX⟩ : ∃ S, S = str (word a) := ⟨_, rfl⟩
  obtain ⟨Y, hY⟩ : ∃ S, S = str (word b) := ⟨_, rfl⟩
  obtain ⟨Z, hZ⟩ : ∃ S, S = str ([120, 32, 48, 58, 32] ++ word a) := ⟨_, rfl⟩
  rw [← hX] at HX HR
  rw [← hY] at HY
  have hadd : ∀ W : World, (Op.stringOp .add ⟨#[120, 32, 48, 58, 32]⟩ X).run Tryd.prog W = .ok (.string Z) W := fun W => by
    rw [hX, hZ]
    exact run_add [120, 32, 48, 58, 32] (word a) (by simp; omega) W
  have hX1 : X.toList = [63] := by rw [hX, str_toList]; exact word_none (Or.inr h1)
  have hn : ¬ a = 0 := by omega
  have h0 : ¬ a < 0 := by omega
  have h12 : ¬ a ≤ 12 := by omega
  have h00 : 0 ≤ a := by omega
  have Ha := hide (show a ≠ 0 by omega)
  have HZ := hide hZ
  have Hty := hide hty
  have Hwl := hide hwl
  clear hX hY hZ hty hwl
  go_enter Tryd.func8, Tryd.ntmps8
  go_wp2_with fail
  refine HA.out.mono ?_
  rintro r w1 ⟨rfl, hb1⟩
  go_wp2_with fail
  refine (HX.out w1).mono ?_
  rintro r w2 ⟨rfl, hb2⟩
  go_wp2_with fail
  refine (HY.out w2).mono ?_
  rintro r w3 ⟨rfl, hb3⟩
  go_wp2_with fail
  refine (HR.out w3).mono ?_
  rintro r w4 ⟨rfl, hb4⟩
  have HB := hide (((hb1.trans (hb2.mono hb1.size)).trans (hb3.mono (Nat.le_trans hb1.size hb2.size))).trans (hb4.mono (Nat.le_trans (Nat.le_trans hb1.size hb2.size) hb3.size)))
  have HW := hide (Wrap_real ⟨#[120]⟩ 0 (.iface 28 (.int .i64 a)) w4 (Real.num Ha.out))
  have hc := Chain.wrap (w := w4) (fs := []) (e := .iface 28 (.int .i64 a)) (i := .iface 28 (.int .i64 a)) rfl ⟨#[120]⟩ 0
  have hbw := HB.out.alloc HB.out.size (.cells #[.string ⟨#[120]⟩, .int .i64 0, .iface 28 (.int .i64 a)] 46)
  clear hb1 hb2 hb3 hb4 HA HX HY HR
  go_wp2_with fail
  refine HW.out.mono ?_
  rintro r w5 ⟨rfl, hw5⟩
  rw [← hw5] at hc hbw
  have hE := Error_any _ _ _ (word a) 1 w5 rfl (Hty.out.below hbw Hty.out.lt) hc (Or.inr (Or.inl ⟨a, rfl, rfl⟩)) (by
    intro f hf
    simp at hf
    obtain rfl := hf
    exact ⟨show (⟨#[120]⟩ : ByteArray).size ≤ 200 by decide, dig_small _ 0 (by decide) (by decide)⟩) (by decide) (by have := Hwl.out; omega)
  rw [words_text, ← HZ.out] at hE
  have HE := hide hE
  have HBW := hide hbw
  clear hw5 hc hbw hE HW HB
  go_wp2_with fail
  refine HE.out.mono ?_
  rintro r w6 ⟨rfl, hb6⟩
  have HB6 := hide (HBW.out.trans (hb6.mono HBW.out.size))
  clear HE hb6
  by_cases h : a = b
  · subst h
    go_wp2
    go_ret
    exact ⟨rfl, HB6.out⟩
  · go_wp2
    all_goals
      go_ret
      exact ⟨rfl, HB6.out⟩


set_option maxHeartbeats 2000000 in
theorem Words_some (a b : Int) (w : World) (hty : Ety w) (h1 : 0 < a) (h2 : a ≤ 12) :
    Calls Tryd.prog 8 #[.int .i64 a, .int .i64 b] w fun e w' => e = .returned (.bool true) ∧ Below w.heap.size w w' := by
  have hm := methodErrF
  have HA := hide (awake_any w hty)
  have HX := hide (Word_any a)
  have HY := hide (Word_any b)
  have HR := hide (RWord_any a)
  have hwl := word_le a
  obtain ⟨X, hX⟩ : ∃ S, S = str (word a) := ⟨_, rfl⟩
  obtain ⟨Y, hY⟩ : ∃ S, S = str (word b) := ⟨_, rfl⟩
  obtain ⟨Z, hZ⟩ : ∃ S, S = str ([120, 32, 48, 58, 32] ++ word a) := ⟨_, rfl⟩
  rw [← hX] at HX HR
  rw [← hY] at HY
  have hadd : ∀ W : World, (Op.stringOp .add ⟨#[120, 32, 48, 58, 32]⟩ X).run Tryd.prog W = .ok (.string Z) W := fun W => by
    rw [hX, hZ]
    exact run_add [120, 32, 48, 58, 32] (word a) (by simp; omega) W
  have hX1 : (X.toList == [63]) = false := by rw [hX, str_toList]; simpa using word_some (by omega) (by omega)
  have hn : ¬ a = 0 := by omega
  have h00 : 0 ≤ a := by omega
  have Ha := hide (show a ≠ 0 by omega)
  have hXY : ¬ a = b → (X.toList == Y.toList) = false := fun h => by
    rw [hX, hY, str_toList, str_toList]
    simpa using word_inj (by omega) (by omega) h
  have HZ := hide hZ
  have Hty := hide hty
  have Hwl := hide hwl
  clear hX hY hZ hty hwl
  go_enter Tryd.func8, Tryd.ntmps8
  go_wp2_with fail
  refine HA.out.mono ?_
  rintro r w1 ⟨rfl, hb1⟩
  go_wp2_with fail
  refine (HX.out w1).mono ?_
  rintro r w2 ⟨rfl, hb2⟩
  go_wp2_with fail
  refine (HY.out w2).mono ?_
  rintro r w3 ⟨rfl, hb3⟩
  go_wp2_with fail
  refine (HR.out w3).mono ?_
  rintro r w4 ⟨rfl, hb4⟩
  have HB := hide (((hb1.trans (hb2.mono hb1.size)).trans (hb3.mono (Nat.le_trans hb1.size hb2.size))).trans (hb4.mono (Nat.le_trans (Nat.le_trans hb1.size hb2.size) hb3.size)))
  have HW := hide (Wrap_real ⟨#[120]⟩ 0 (.iface 28 (.int .i64 a)) w4 (Real.num Ha.out))
  have hc := Chain.wrap (w := w4) (fs := []) (e := .iface 28 (.int .i64 a)) (i := .iface 28 (.int .i64 a)) rfl ⟨#[120]⟩ 0
  have hbw := HB.out.alloc HB.out.size (.cells #[.string ⟨#[120]⟩, .int .i64 0, .iface 28 (.int .i64 a)] 46)
  clear hb1 hb2 hb3 hb4 HA HX HY HR
  go_wp2_with fail
  refine HW.out.mono ?_
  rintro r w5 ⟨rfl, hw5⟩
  rw [← hw5] at hc hbw
  have hE := Error_any _ _ _ (word a) 1 w5 rfl (Hty.out.below hbw Hty.out.lt) hc (Or.inr (Or.inl ⟨a, rfl, rfl⟩)) (by
    intro f hf
    simp at hf
    obtain rfl := hf
    exact ⟨show (⟨#[120]⟩ : ByteArray).size ≤ 200 by decide, dig_small _ 0 (by decide) (by decide)⟩) (by decide) (by have := Hwl.out; omega)
  rw [words_text, ← HZ.out] at hE
  have HE := hide hE
  have HBW := hide hbw
  clear hw5 hc hbw hE HW HB
  go_wp2_with fail
  refine HE.out.mono ?_
  rintro r w6 ⟨rfl, hb6⟩
  have HB6 := hide (HBW.out.trans (hb6.mono HBW.out.size))
  clear HE hb6
  by_cases h : a = b
  · subst h
    clear hXY
    go_wp2
    go_ret
    exact ⟨rfl, HB6.out⟩
  · have hq := hXY h
    clear hXY
    go_wp2
    go_ret
    exact ⟨rfl, HB6.out⟩


theorem Words_walk (a b : Int) (w : World) (hty : Ety w) :
    Calls Tryd.prog 8 #[.int .i64 a, .int .i64 b] w fun e w' => e = .returned (.bool true) ∧ Below w.heap.size w w' := by
  by_cases h0 : a < 0
  · exact Words_low a b w hty h0
  by_cases h1 : 13 ≤ a
  · exact Words_high a b w hty h1
  by_cases h2 : a = 0
  · subst h2
    exact Words_zero b w hty
  · exact Words_some a b w hty (by omega) (by omega)

end Go.Proofs.YtknnalcnoccleaaDoor.Fa
