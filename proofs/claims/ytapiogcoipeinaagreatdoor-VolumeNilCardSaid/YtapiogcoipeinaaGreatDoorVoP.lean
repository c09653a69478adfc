/-
  The statements' own place, at a fault of the volume's and at none; the calls on no volume. Nothing that was there is changed. Condition: the library's variable errors.errorType holds what the program's own text lays.
-/
import Derived.Test.YtapiogcoipeinaaGreatDoorVoA
import Derived.Test.YtapiogcoipeinaaGreatDoorFaPathB

/-
  fault.First and fault.Code of a volume's faults, and of nil. Nothing is changed. Condition: the library's variable errors.errorType holds what the program's own text lays.
-/
namespace Go.Proofs.YtapiogcoipeinaaGreatDoor.Vo
open Go.RowKit
open Pk Sm Fa Rc Dk Jn

theorem First_flt {w : World} {v : Value} {r k : Int} (hty : Ety w) (h : VFlt w v r k) :
    Calls Tryz.prog 46 #[v, .string vnam] w fun e w' => e = .returned (.tuple #[.int .i64 r, .bool true]) ∧ Below w.heap.size w w' := by
  obtain ⟨p, fs, rfl, hc, hl⟩ := h
  have hF := First_any _ _ _ vnam _ w rfl hty hc (by first | exact Or.inr ⟨k, rfl⟩ | exact Or.inr (Or.inl ⟨k, rfl⟩)) (by simp; omega)
  have hf : Fa.fnd (pls ((p, vnam, r) :: fs)) vnam = (r, true) := fnd_yes (by simp)
  rw [hf] at hF
  exact hF
theorem First_none {w : World} (hty : Ety w) : Calls Tryz.prog 46 #[.nilIface, .string vnam] w fun e w' => e = .returned (.tuple #[.int .i64 0, .bool false]) ∧ Below w.heap.size w w' :=
  First_any [] _ _ vnam _ w rfl hty rfl (Or.inl rfl) (by simp)
theorem Code_flt {w : World} {v : Value} {r k : Int} (hty : Ety w) (h : VFlt w v r k) :
    Calls Tryz.prog 47 #[v] w fun e w' => e = .returned (.int .i64 k) ∧ Below w.heap.size w w' := by
  obtain ⟨p, fs, rfl, hc, hl⟩ := h
  exact Code_any _ _ _ k w hty hc (by first | exact Or.inr rfl | exact Or.inr (Or.inl rfl)) (by simp; omega)
theorem Code_none {w : World} (hty : Ety w) : Calls Tryz.prog 47 #[.nilIface] w fun e w' => e = .returned (.int .i64 0) ∧ Below w.heap.size w w' :=
  Code_any [] _ _ 0 w hty rfl (Or.inl ⟨rfl, rfl⟩) (by simp)

end Go.Proofs.YtapiogcoipeinaaGreatDoor.Vo

namespace Go.Proofs.YtapiogcoipeinaaGreatDoor.Vo
open Go.RowKit
open Pk Sm Fa Rc Dk Jn

set_option maxRecDepth 100000 in
theorem place_flt {w : World} {p : Nat} {s e : Int} (hty : Ety w) (h : VErr w p s e) (he : e ≠ 0) :
    Calls Tryz.prog 15 #[.iface 145 (.pointer (some ⟨p, 0, none⟩)), .int .i64 s, .int .i64 e] w fun r w' => r = .returned (.bool true) ∧ Below w.heap.size w w' := by
  have HF := hide (First_flt hty h)
  have HY := hide hty
  have HP := hide hty.lt
  have HV := hide h
  have he3 : (e != 0) = true := by simp [he]
  clear hty h he
  go_enter Tryz.func15, Tryz.ntmps15
  go_wp2_with fail
  refine HF.out.mono ?_
  rintro r w1 ⟨rfl, hb1⟩
  have HC := hide (Code_flt (HY.out.below hb1 HP.out) (VFlt.below HV.out (Nat.le_refl _) hb1))
  have HB1 := hide hb1
  clear hb1 HF
  go_wp2_with fail
  refine HC.out.mono ?_
  rintro r w2 ⟨rfl, hb2⟩
  have HB2 := hide (HB1.out.trans (hb2.mono HB1.out.size))
  clear hb2 HC
  go_wp2
  go_ret
  exact ⟨rfl, HB2.out⟩
set_option maxRecDepth 100000 in
theorem place_none {w : World} (hty : Ety w) (s : Int) :
    Calls Tryz.prog 15 #[.nilIface, .int .i64 s, .int .i64 0] w fun r w' => r = .returned (.bool true) ∧ Below w.heap.size w w' := by
  have HF := hide (First_none hty)
  have HY := hide hty
  have HP := hide hty.lt
  clear hty
  go_enter Tryz.func15, Tryz.ntmps15
  go_wp2_with fail
  refine HF.out.mono ?_
  rintro r w1 ⟨rfl, hb1⟩
  have HC := hide (Code_none (HY.out.below hb1 HP.out))
  have HB1 := hide hb1
  clear hb1 HF
  go_wp2_with fail
  refine HC.out.mono ?_
  rintro r w2 ⟨rfl, hb2⟩
  have HB2 := hide (HB1.out.trans (hb2.mono HB1.out.size))
  clear hb2 HC
  go_wp2
  go_ret
  exact ⟨rfl, HB2.out⟩

end Go.Proofs.YtapiogcoipeinaaGreatDoor.Vo
