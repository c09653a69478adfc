/-
  fault.Wrap, and the statements' first call, awake: it returns true, and changes nothing that was there. Condition: the library's variable errors.errorType holds its own type's handle.
-/
import Derived.Test.YtknnalcnoccleaaDoorFaTells
namespace Go.Proofs.YtknnalcnoccleaaDoor.Fa
open Go.RowKit Go.Stop
open Pk Sm

theorem Wrap_nil (op : ByteArray) (n : Int) (w : World) :
    Calls Tryd.prog 24 #[.string op, .int .i64 n, .nilIface] w fun r w' => r = .returned .nilIface ∧ w' = w := by
  go_enter Tryd.func24, Tryd.ntmps24
  go_wp2
  go_ret
  exact ⟨rfl, rfl⟩

theorem Wrap_ok (op : ByteArray) (n : Int) (w : World) :
    Calls Tryd.prog 24 #[.string op, .int .i64 n, .iface 28 (.int .i64 0)] w fun r w' => r = .returned .nilIface ∧ w' = w := by
  have he := eql_errno 0 0
  go_enter Tryd.func24, Tryd.ntmps24
  go_wp2
  go_ret
  exact ⟨rfl, rfl⟩

/-- An error that is neither nil nor OK. -/
def Real (e : Value) : Prop := ∃ T v, e = .iface T v ∧ (T ≠ 28 ∨ (T = 28 ∧ ∃ k : Int, v = .int .i64 k ∧ k ≠ 0))
theorem Real.num {k : Int} (h : k ≠ 0) : Real (.iface 28 (.int .i64 k)) := ⟨_, _, rfl, Or.inr ⟨rfl, k, rfl, h⟩⟩
theorem Real.flt (v : Value) : Real (.iface 41 v) := ⟨_, _, rfl, Or.inl (by decide)⟩
theorem Real.own (v : Value) : Real (.iface 76 v) := ⟨_, _, rfl, Or.inl (by decide)⟩
theorem Real.eql {e : Value} (h : Real e) (w : World) : (binOp .eql 26 e (.iface 28 (.int .i64 0))).run Tryd.prog w = .ok (.bool false) w := by
  obtain ⟨T, v, rfl, h⟩ := h
  rcases h with h | ⟨rfl, k, rfl, h⟩
  · exact run_eql_iface_types T 28 v _ Tryd.underlying26 h w
  · rw [eql_errno]
    simp [h]

theorem Wrap_real (op : ByteArray) (n : Int) (e : Value) (w : World) (he : Real e) :
    Calls Tryd.prog 24 #[.string op, .int .i64 n, e] w fun r w' => r = .returned (.iface 41 (.pointer (some ⟨w.heap.size, 0, none⟩))) ∧ w' = w.alloc (.cells #[.string op, .int .i64 n, e] 46) := by
  have hq := he.eql
  obtain ⟨T, v, rfl, _⟩ := he
  go_enter Tryd.func24, Tryd.ntmps24
  go_wp2
  go_ret
  exact ⟨rfl, rfl⟩

/-- The wrapped error in memory. -/
theorem Chain.wrap {w : World} {fs : List Flt} {e i : Value} (h : Chain w fs e i) (op : ByteArray) (n : Int) :
    Chain (w.alloc (.cells #[.string op, .int .i64 n, e] 46)) ((w.heap.size, op, n) :: fs) (.iface 41 (.pointer (some ⟨w.heap.size, 0, none⟩))) i :=
  ⟨rfl, e, heap_alloc_new w _, h.below (Nat.le_refl _) ((Below.refl _ _).alloc (Nat.le_refl _) _)⟩

theorem str_toList (l : List UInt8) : (str l).toList = l := by rw [ByteArray.toList_eq]; rfl
theorem dig_small (w : World) (n : Int) (h0 : 0 ≤ n) (h1 : n < 100) : Dig w n := Or.inl ⟨h0, h1⟩
theorem itoa_one (n : Nat) (h : n < 10) : Lib.itoa (n : Int) = [UInt8.ofNat (48 + n)] := by rw [Lib.itoa_nonneg, Lib.decDigits_one h]

theorem awake_text (a b : Nat) : pth [(a, ⟨#[106, 111, 117, 114, 110, 97, 108]⟩, 1), (b, ⟨#[100, 105, 115, 107]⟩, 3)] ++ word 6 = [106, 111, 117, 114, 110, 97, 108, 32, 49, 58, 32, 100, 105, 115, 107, 32, 51, 58, 32, 102, 117, 108, 108] := by
  have h1 : Lib.itoa 1 = [49] := itoa_one 1 (by decide)
  have h3 : Lib.itoa 3 = [51] := itoa_one 3 (by decide)
  simp only [pth, plc, h1, h3]
  rfl

set_option maxHeartbeats 1000000 in
theorem awake_any (w : World) (hty : Ety w) : Calls Tryd.prog 9 #[] w fun r w' => r = .returned (.bool true) ∧ Below w.heap.size w w' := by
  have hm := methodErrF
  have HW1 := hide (Wrap_real ⟨#[100, 105, 115, 107]⟩ 3 (.iface 28 (.int .i64 6)) w (Real.num (by decide)))
  have hc1 := Chain.wrap (w := w) (fs := []) (e := .iface 28 (.int .i64 6)) (i := .iface 28 (.int .i64 6)) rfl ⟨#[100, 105, 115, 107]⟩ 3
  have hb1 : Below w.heap.size w (w.alloc (.cells #[.string ⟨#[100, 105, 115, 107]⟩, .int .i64 3, .iface 28 (.int .i64 6)] 46)) := (Below.refl _ _).alloc (Nat.le_refl _) _
  have Hty := hide hty
  clear hty
  go_enter Tryd.func9, Tryd.ntmps9
  go_wp2_with fail
  refine HW1.out.mono ?_
  rintro r w1 ⟨rfl, hw1⟩
  rw [← hw1] at hc1 hb1
  have HW2 := hide (Wrap_real ⟨#[106, 111, 117, 114, 110, 97, 108]⟩ 1 _ w1 (Real.flt (.pointer (some ⟨w.heap.size, 0, none⟩))))
  have hc2 := hc1.wrap ⟨#[106, 111, 117, 114, 110, 97, 108]⟩ 1
  have hb2 := hb1.alloc hb1.size (.cells #[.string ⟨#[106, 111, 117, 114, 110, 97, 108]⟩, .int .i64 1, .iface 41 (.pointer (some ⟨w.heap.size, 0, none⟩))] 46)
  clear hw1 HW1 hc1 hb1
  go_wp2_with fail
  refine HW2.out.mono ?_
  rintro r w2 ⟨rfl, hw2⟩
  rw [← hw2] at hc2 hb2
  have hty2 := Hty.out.below hb2 Hty.out.lt
  have hE := Error_any _ _ _ (word 6) 2 w2 rfl hty2 hc2 (Or.inr (Or.inl ⟨6, rfl, rfl⟩)) (by
    intro f hf
    simp at hf
    rcases hf with rfl | rfl
    · exact ⟨show (⟨#[106, 111, 117, 114, 110, 97, 108]⟩ : ByteArray).size ≤ 200 by decide, dig_small _ 1 (by decide) (by decide)⟩
    · exact ⟨show (⟨#[100, 105, 115, 107]⟩ : ByteArray).size ≤ 200 by decide, dig_small _ 3 (by decide) (by decide)⟩) (by decide) (by decide)
  rw [awake_text] at hE
  have HE := hide hE
  have HC2 := hide hc2
  have HB2 := hide hb2
  clear hw2 HW2 hc2 hb2 hE hty2
  go_wp2_with fail
  refine HE.out.mono ?_
  rintro r w3 ⟨rfl, hb3⟩
  have HB3 := hide (HB2.out.trans (hb3.mono HB2.out.size))
  have HC := hide (Code_any _ _ _ 6 w3 (Hty.out.below HB3.out Hty.out.lt) (HC2.out.below (Nat.le_refl _) hb3) (Or.inr (Or.inl rfl)) (by simp))
  have hs := str_toList [106, 111, 117, 114, 110, 97, 108, 32, 49, 58, 32, 100, 105, 115, 107, 32, 51, 58, 32, 102, 117, 108, 108]
  clear HE hb3
  go_wp2_with fail
  refine HC.out.mono ?_
  rintro r w4 ⟨rfl, hb4⟩
  have HB4 := hide (HB3.out.trans (hb4.mono HB3.out.size))
  clear HC hb4
  go_wp2
  go_ret
  exact ⟨rfl, HB4.out⟩

end Go.Proofs.YtknnalcnoccleaaDoor.Fa
