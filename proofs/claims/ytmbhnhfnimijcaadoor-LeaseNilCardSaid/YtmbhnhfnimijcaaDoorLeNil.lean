/-
  The calls of a nil site and of a nil fence, and isobarlaw16.LeaseNil, walked: they are down; the zero site acknowledges nothing. Condition: the library's variable errors.errorType holds what the program's own text lays.
-/
import Derived.Test.YtmbhnhfnimijcaaDoorLeAwake
namespace Go.Proofs.YtmbhnhfnimijcaaDoor.Le
open Go.RowKit
open Pk Sm Fa Dk Wn Lk

set_option maxRecDepth 100000 in
theorem Grant_nil (e n : Int) (w : World) : Calls Tryd.prog 11 #[.pointer none, .int .i64 e, .int .i64 n] w fun e w' => ∃ p, e = .returned (.iface 72 (.pointer (some ⟨p, 0, none⟩))) ∧ Fails w 0 11 p w' := by
  go_enter Tryd.func11, Tryd.ntmps11
  go_wp2_with fail
  refine (failed_any 0 11 w (by decide)).mono ?_
  rintro r w2 ⟨p, rfl, hF⟩
  have HF := hide hF
  clear hF
  go_wp2
  go_ret
  exact ⟨p, rfl, HF.out⟩
set_option maxRecDepth 100000 in
theorem Check_nil (e n : Int) (w : World) : Calls Tryd.prog 13 #[.pointer none, .int .i64 e, .int .i64 n] w fun e w' => ∃ p, e = .returned (.iface 72 (.pointer (some ⟨p, 0, none⟩))) ∧ Fails w 0 11 p w' := by
  go_enter Tryd.func13, Tryd.ntmps13
  go_wp2_with fail
  refine (failed_any 0 11 w (by decide)).mono ?_
  rintro r w2 ⟨p, rfl, hF⟩
  have HF := hide hF
  clear hF
  go_wp2
  go_ret
  exact ⟨p, rfl, HF.out⟩
set_option maxRecDepth 100000 in
theorem Renew_nil (e n : Int) (w : World) : Calls Tryd.prog 17 #[.pointer none, .int .i64 e, .int .i64 n] w fun e w' => ∃ p, e = .returned (.iface 72 (.pointer (some ⟨p, 0, none⟩))) ∧ Fails w 0 11 p w' := by
  go_enter Tryd.func17, Tryd.ntmps17
  go_wp2_with fail
  refine (failed_any 0 11 w (by decide)).mono ?_
  rintro r w2 ⟨p, rfl, hF⟩
  have HF := hide hF
  clear hF
  go_wp2
  go_ret
  exact ⟨p, rfl, HF.out⟩
set_option maxRecDepth 100000 in
theorem Promote_nil (n : Int) (w : World) : Calls Tryd.prog 15 #[.pointer none, .int .i64 n] w fun e w' => ∃ p, e = .returned (.tuple #[.int .i64 0, .int .i64 0, .iface 72 (.pointer (some ⟨p, 0, none⟩))]) ∧ Fails w 0 11 p w' := by
  go_enter Tryd.func15, Tryd.ntmps15
  go_wp2_with fail
  refine (failed_any 0 11 w (by decide)).mono ?_
  rintro r w2 ⟨p, rfl, hF⟩
  have HF := hide hF
  clear hF
  go_wp2
  go_ret3
  exact ⟨p, rfl, HF.out⟩
set_option maxRecDepth 100000 in
theorem Epoch_nil (w : World) : Calls Tryd.prog 21 #[.pointer none] w fun e w' => e = .returned (.tuple #[.int .i64 0, .int .i64 0]) ∧ w = w' := by
  go_enter Tryd.func21, Tryd.ntmps21
  go_wp2
  go_ret2
  exact ⟨rfl, rfl⟩
set_option maxRecDepth 100000 in
theorem Holds_nil (n : Int) (w : World) : Calls Tryd.prog 19 #[.pointer none, .int .i64 n] w fun e w' => e = .returned (.int .i64 0) ∧ w = w' := by
  go_enter Tryd.func19, Tryd.ntmps19
  go_wp2
  go_ret
  exact ⟨rfl, rfl⟩
set_option maxRecDepth 100000 in
set_option maxHeartbeats 4000000 in
theorem Nil_any (x n : Int) (w : World) (hty : Ety w) :
    Calls Tryd.prog 6 #[.int .i64 x, .int .i64 n] w fun e w' => e = .returned (.bool true) ∧ Below w.heap.size w w' := by
  have HE : Hid (∀ W, Below w.heap.size w W → Ety W) := fun W hW => Ety.below hty hW hty.lt
  have HA := hide (awake_any w hty)
  clear hty
  go_enter Tryd.func6, Tryd.ntmps6
  go_wp2_with fail
  refine HA.out.mono ?_
  rintro e w1 ⟨rfl, hb⟩
  have HB1 := hide hb
  clear hb HA
  go_wp2_with fail
  refine (Epoch_nil w1).mono ?_
  rintro e w' ⟨rfl, hw⟩
  subst hw
  go_wp2_with fail
  refine (Promote_nil n w1).mono ?_
  rintro e w2 ⟨p2, rfl, hF⟩
  have HB2 := hide (HB1.out.trans (hF.2.mono HB1.out.size))
  have HF2 := hide (show Flt w2 p2 0 11 from hF.1)
  have HN := hide (St.new_site (St.start w2))
  clear hF HB1
  go_wp2_with fail
  generalize World.alloc _ _ = w3 at *
  have HS3 := hide (show St w2 [sitT w2.heap.size s0] w3 from HN.out)
  have HF3 := hide (HF2.out.below HS3.out.bel)
  clear HN HF2
  generalize w2.heap.size = q at HS3 ⊢
  have HE2 : Hid (∀ W, St w2 [] W → Ety W) := fun W hW => HE.out W (HB2.out.trans (hW.bel.mono HB2.out.size))
  clear HE
  refine (Grant_nil x n w3).mono ?_
  rintro e w4 ⟨p, rfl, hF⟩
  have HS4 := hide (HS3.out.below hF.2)
  have HF4 := hide (HF3.out.below hF.2)
  have HP := hide (place_flt (HE2.out _ (St.weaken (Ts := []) HS4.out)) hF.1 (by decide))
  clear hF HS3 HF3
  go_wp2_with fail
  refine HP.out.mono ?_
  rintro e w5 ⟨rfl, hb⟩
  have HS5 := hide (HS4.out.below hb)
  have HF5 := hide (HF4.out.below hb)
  clear hb HP HS4 HF4
  go_wp2_with fail
  refine (Check_nil x n w5).mono ?_
  rintro e w6 ⟨p, rfl, hF⟩
  have HS6 := hide (HS5.out.below hF.2)
  have HF6 := hide (HF5.out.below hF.2)
  have HP := hide (place_flt (HE2.out _ (St.weaken (Ts := []) HS6.out)) hF.1 (by decide))
  clear hF HS5 HF5
  go_wp2_with fail
  refine HP.out.mono ?_
  rintro e w7 ⟨rfl, hb⟩
  have HS7 := hide (HS6.out.below hb)
  have HF7 := hide (HF6.out.below hb)
  clear hb HP HS6 HF6
  go_wp2_with fail
  have HP := hide (place_flt (HE2.out _ (St.weaken (Ts := []) HS7.out)) HF7.out (by decide))
  clear HF7
  refine HP.out.mono ?_
  rintro e w8 ⟨rfl, hb⟩
  have HS8 := hide (HS7.out.below hb)
  clear hb HP HS7
  go_wp2_with fail
  refine (Renew_nil x n w8).mono ?_
  rintro e w9 ⟨p, rfl, hF⟩
  have HS9 := hide (HS8.out.below hF.2)
  have HP := hide (place_flt (HE2.out _ (St.weaken (Ts := []) HS9.out)) hF.1 (by decide))
  clear hF HS8
  go_wp2_with fail
  refine HP.out.mono ?_
  rintro e w10 ⟨rfl, hb⟩
  have HS10 := hide (HS9.out.below hb)
  clear hb HP HS9
  go_wp2_with fail
  refine (Holds_nil n w10).mono ?_
  rintro e w' ⟨rfl, hw⟩
  subst hw
  go_wp2_with fail
  refine (S_check_is HS10.out (i := 0) rfl x n (k := 10) (if_pos (Or.inr (show s0.e = 0 from rfl))) rfl).mono ?_
  rintro e w11 ⟨v11, rfl, hE, hS⟩
  have HC := hide (S_code (St.weaken (Ts := []) hS) (HE2.out _ (St.weaken (Ts := []) hS)) hE)
  clear hE hS HS10
  go_wp2_with fail
  refine HC.out.mono ?_
  rintro e w12 ⟨rfl, hS⟩
  have HN := hide (St.new_fence hS)
  clear hS HC
  go_wp2_with fail
  generalize World.alloc _ _ = w13 at *
  have HS13 := hide (show St w2 [fenT w12.heap.size f0] w13 from HN.out)
  clear HN
  have HH := hide (S_holds_is HS13.out (i := 0) rfl n (k := 0) (by unfold Fen.hold; split <;> rfl) rfl)
  clear HS13
  generalize w12.heap.size = q2 at HH ⊢
  refine HH.out.mono ?_
  rintro e w14 ⟨rfl, hS⟩
  have HB := hide (HB2.out.trans (hS.bel.mono HB2.out.size))
  clear hS HH
  go_wp2
  go_ret
  exact ⟨rfl, HB.out⟩

end Go.Proofs.YtmbhnhfnimijcaaDoor.Le
