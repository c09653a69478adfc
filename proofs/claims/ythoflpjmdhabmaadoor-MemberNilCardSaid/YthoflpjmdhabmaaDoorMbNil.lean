/-
  The calls of a nil group, and isobarlaw15.MemberNil, walked: a nil group has nobody, and is down. Condition: the library's variable errors.errorType holds what the program's own text lays.
-/
import Derived.Test.YthoflpjmdhabmaaDoorMbPlace
import Derived.Test.YthoflpjmdhabmaaDoorMbAwake
namespace Go.Proofs.YthoflpjmdhabmaaDoor.Mb
open Go.RowKit
open Pk Dk Wn Lk Fa

set_option maxRecDepth 100000 in
theorem at_nil (m : Int) (w : World) : Calls Tryd.prog 35 #[.pointer none, .int .i64 m] w fun e w' => e = .returned (.int .i64 0) ∧ w = w' := by
  go_enter Tryd.func35, Tryd.ntmps35
  go_wp2
  go_ret
  exact ⟨rfl, rfl⟩
set_option maxRecDepth 100000 in
theorem Last_nil (w : World) : Calls Tryd.prog 14 #[.pointer none] w fun e w' => e = .returned (.int .i64 0) ∧ w = w' := by
  go_enter Tryd.func14, Tryd.ntmps14
  go_wp2
  go_ret
  exact ⟨rfl, rfl⟩
set_option maxRecDepth 100000 in
theorem now_nil (w : World) : Calls Tryd.prog 37 #[.pointer none] w fun e w' => e = .returned (.int .i64 0) ∧ w = w' := by
  go_enter Tryd.func37, Tryd.ntmps37
  go_wp2_with fail
  refine (Last_nil w).mono ?_
  rintro e w1 ⟨rfl, hw⟩
  subst hw
  go_wp2_with fail
  refine (at_nil 0 w).mono ?_
  rintro e w1 ⟨rfl, hw⟩
  subst hw
  go_wp2
  go_ret
  exact ⟨rfl, rfl⟩
theorem list_none (w : World) : Calls Tryd.prog 36 #[.int .i64 0] w fun e w' => ∃ A c, e = .returned (.slice A 0 c) ∧ Below w.heap.size w w' := by
  refine (list_any 0 (by decide) w).mono ?_
  rintro e w' ⟨v, rfl, hI, hb⟩
  rw [show vols 0 4 = [] by decide] at hI
  obtain ⟨A, c, rfl, _, _, _⟩ := hI.form
  exact ⟨A, c, rfl, hb⟩
set_option maxRecDepth 100000 in
theorem At_nil (m : Int) (w : World) : Calls Tryd.prog 17 #[.pointer none, .int .i64 m] w fun e w' => ∃ A c, e = .returned (.slice A 0 c) ∧ Below w.heap.size w w' := by
  go_enter Tryd.func17, Tryd.ntmps17
  go_wp2_with fail
  refine (at_nil m w).mono ?_
  rintro e w1 ⟨rfl, hw⟩
  subst hw
  go_wp2_with fail
  refine (list_none w).mono ?_
  rintro e w1 ⟨A, c, rfl, hb⟩
  have HB := hide hb
  clear hb
  go_wp2
  go_ret
  exact ⟨A, c, rfl, HB.out⟩
set_option maxRecDepth 100000 in
theorem Now_nil (w : World) : Calls Tryd.prog 19 #[.pointer none] w fun e w' => ∃ A c, e = .returned (.slice A 0 c) ∧ Below w.heap.size w w' := by
  go_enter Tryd.func19, Tryd.ntmps19
  go_wp2_with fail
  refine (now_nil w).mono ?_
  rintro e w1 ⟨rfl, hw⟩
  subst hw
  go_wp2_with fail
  refine (list_none w).mono ?_
  rintro e w1 ⟨A, c, rfl, hb⟩
  have HB := hide hb
  clear hb
  go_wp2
  go_ret
  exact ⟨A, c, rfl, HB.out⟩
set_option maxRecDepth 100000 in
theorem Bytes_nil (w : World) : Calls Tryd.prog 20 #[.pointer none] w fun e w' => e = .returned (.slice none 0 0) ∧ w = w' := by
  go_enter Tryd.func20, Tryd.ntmps20
  go_wp2
  go_ret
  exact ⟨rfl, rfl⟩
set_option maxRecDepth 100000 in
theorem Add_nil (v m : Int) (w : World) : Calls Tryd.prog 11 #[.pointer none, .int .i64 v, .int .i64 m] w fun e w' => ∃ q, e = .returned (.iface 86 (.pointer (some ⟨q, 0, none⟩))) ∧ Fails w 0 11 q w' := by
  go_enter Tryd.func11, Tryd.ntmps11
  go_wp2_with fail
  refine (take_nil m v false w).mono ?_
  rintro e w2 ⟨q, rfl, hF⟩
  have HF := hide hF
  clear hF
  go_wp2
  go_ret
  exact ⟨q, rfl, HF.out⟩
set_option maxRecDepth 100000 in
theorem Remove_nil (v m : Int) (w : World) : Calls Tryd.prog 13 #[.pointer none, .int .i64 v, .int .i64 m] w fun e w' => ∃ q, e = .returned (.iface 86 (.pointer (some ⟨q, 0, none⟩))) ∧ Fails w 0 11 q w' := by
  go_enter Tryd.func13, Tryd.ntmps13
  go_wp2_with fail
  refine (take_nil m v true w).mono ?_
  rintro e w2 ⟨q, rfl, hF⟩
  have HF := hide hF
  clear hF
  go_wp2
  go_ret
  exact ⟨q, rfl, HF.out⟩
set_option maxRecDepth 100000 in
set_option maxHeartbeats 2000000 in
theorem Nil_any (v m : Int) (w : World) (hty : Ety w) :
    Calls Tryd.prog 5 #[.int .i64 v, .int .i64 m] w fun e w' => e = .returned (.bool true) ∧ Below w.heap.size w w' := by
  have Hty := hide hty
  clear hty
  go_enter Tryd.func5, Tryd.ntmps5
  go_wp2_with fail
  refine (awake_any w).mono ?_
  rintro e w1 ⟨rfl, hb⟩
  have HB1 := hide hb
  clear hb
  go_wp2_with fail
  refine (Add_nil v m w1).mono ?_
  rintro e w2 ⟨q, rfl, hF⟩
  have HB2 := hide (HB1.out.trans (hF.2.mono HB1.out.size))
  have HP := hide (place_flt (Ety.below Hty.out HB2.out Hty.out.lt) hF.1 (by decide))
  clear hF HB1
  go_wp2_with fail
  refine HP.out.mono ?_
  rintro e w3 ⟨rfl, hb⟩
  have HB3 := hide (HB2.out.trans (hb.mono HB2.out.size))
  clear hb HB2 HP
  go_wp2_with fail
  refine (Remove_nil v m w3).mono ?_
  rintro e w4 ⟨q2, rfl, hF⟩
  have HB4 := hide (HB3.out.trans (hF.2.mono HB3.out.size))
  have HP := hide (place_flt (Ety.below Hty.out HB4.out Hty.out.lt) hF.1 (by decide))
  clear hF HB3
  go_wp2_with fail
  refine HP.out.mono ?_
  rintro e w5 ⟨rfl, hb⟩
  have HB5 := hide (HB4.out.trans (hb.mono HB4.out.size))
  clear hb HB4 HP
  go_wp2_with fail
  refine (At_nil m w5).mono ?_
  rintro e w6 ⟨A, c, rfl, hb⟩
  have HB6 := hide (HB5.out.trans (hb.mono HB5.out.size))
  clear hb HB5
  go_wp2_with fail
  refine (Now_nil w6).mono ?_
  rintro e w7 ⟨A7, c7, rfl, hb⟩
  have HB7 := hide (HB6.out.trans (hb.mono HB6.out.size))
  clear hb HB6
  go_wp2_with fail
  refine (Bytes_nil w7).mono ?_
  rintro e w8 ⟨rfl, hw⟩
  subst hw
  go_wp2_with fail
  refine (Last_nil w7).mono ?_
  rintro e w8 ⟨rfl, hw⟩
  subst hw
  go_wp2
  go_ret
  exact ⟨rfl, HB7.out⟩

end Go.Proofs.YthoflpjmdhabmaaDoor.Mb
