/-
  LeaseSite at every epoch and all times: it returns true, and changes nothing that was there. Condition: the library's variable errors.errorType holds what the program's own text lays.
-/
import Derived.Test.YtmbhnhfnimijcaaDoorLeAwake
namespace Go.Proofs.YtmbhnhfnimijcaaDoor.Le
open Go.RowKit
open Pk Sm Fa Dk Wn Lk

set_option maxRecDepth 100000 in
set_option maxHeartbeats 4000000 in
theorem Site_any (m0 m1 m2 m3 : Nat) (w : World) (hty : Ety w) (h0 : m0 < 65536) (h1 : m1 < 65536) (h2 : m2 < 65536) (h3 : m3 < 65536) :
    Calls Tryd.prog 7 #[.int .u16 (m0 : Int), .int .u16 (m1 : Int), .int .u16 (m2 : Int), .int .u16 (m3 : Int)] w fun e w' => e = .returned (.bool true) ∧ Below w.heap.size w w' := by
  have HE0 : Hid (∀ W, Below w.heap.size w W → Ety W) := fun W hW => Ety.below hty hW hty.lt
  have HA := hide (awake_any w hty)
  clear hty
  obtain ⟨T, hT⟩ : ∃ T : Int, (m1 : Int) = T := ⟨_, rfl⟩
  obtain ⟨E, hE1⟩ : ∃ E : Int, 1 + (m0 : Int) = E := ⟨_, rfl⟩
  obtain ⟨r2, hr2⟩ : ∃ r : Int, (m2 : Int).tmod 20 = r := ⟨_, rfl⟩
  obtain ⟨r3, hr3⟩ : ∃ r : Int, (m3 : Int).tmod 20 = r := ⟨_, rfl⟩
  have b2 : 0 ≤ r2 ∧ r2 < 20 := by rw [Int.tmod_eq_emod_of_nonneg (by omega)] at hr2; omega
  have b3 : 0 ≤ r3 ∧ r3 < 20 := by rw [Int.tmod_eq_emod_of_nonneg (by omega)] at hr3; omega
  obtain ⟨U, hU⟩ : ∃ U : Int, T + r2 = U := ⟨_, rfl⟩
  obtain ⟨X, hX⟩ : ∃ X : Int, U + r3 = X := ⟨_, rfl⟩
  obtain ⟨t0, t1⟩ : 0 ≤ T ∧ T ≤ 65535 := by omega
  obtain ⟨e0, e1⟩ : 1 ≤ E ∧ E ≤ 65536 := by omega
  obtain ⟨u0, u1⟩ : 0 ≤ U ∧ U ≤ 65555 := by omega
  obtain ⟨x0, x1⟩ : 0 ≤ X ∧ X ≤ 65575 := by omega
  have HUT := hide (show T ≤ U by omega)
  have HXU := hide (show U ≤ X by omega)
  have hEp : IntKind.i64.wrap (E + 1) = E + 1 := by rw [IntKind.wrap_i64]; omega
  have hEm : IntKind.i64.wrap (E - 1) = E - 1 := by rw [IntKind.wrap_i64]; omega
  obtain ⟨b20, b21⟩ := b2
  obtain ⟨b30, b31⟩ := b3
  go_enter Tryd.func7, Tryd.ntmps7
  go_wp2_with fail
  refine HA.out.mono ?_
  rintro e w1 ⟨rfl, hb⟩
  have HE : Hid (∀ W, St w1 [] W → Ety W) := fun W hW => HE0.out W (hb.trans (hW.bel.mono hb.size))
  have HB1 := hide hb
  have HN := hide (St.new_site (St.start w1))
  clear hb HA HE0
  go_wp2_with fail
  generalize World.alloc _ _ = w2 at *
  have HS2 := hide (show St w1 [sitT w1.heap.size s0] w2 from HN.out)
  clear HN
  have HG := hide (Calls.ok (S_grant_is HS2.out (i := 0) rfl s0_ok E T (k := 0) (Sit.gE_zero (by omega) (by show (0 : Int) ≤ E; omega)) (s' := ⟨T, E, T + 10⟩) (by rw [Sit.grant_ok (by omega) (by show (0 : Int) ≤ E; omega), tk_now (by show (0 : Int) ≤ T; omega) (by omega)])))
  clear HS2
  generalize w1.heap.size = q at HG ⊢
  refine HG.out.mono ?_
  rintro e w3 ⟨rfl, hS⟩
  have HC := hide (Calls.ok (S_check_is hS (i := 0) rfl E T (k := 0) (Sit.cE_zero (by show E ≠ 0; omega) (by show tk T T < T + 10; rw [tk_old (Int.le_refl _)]; omega)) (s' := ⟨T, E, T + 10⟩) (by unfold Sit.tick; rw [show tk T T = T from tk_old (Int.le_refl _)])))
  clear hS HG
  go_wp2_with fail
  refine HC.out.mono ?_
  rintro e w4 ⟨rfl, hS⟩
  have HC2 := hide (S_check_is hS (i := 0) rfl (E + 1) T (k := 10) (Sit.cE_stale (by show E + 1 ≠ E; omega)) (s' := ⟨T, E, T + 10⟩) (by unfold Sit.tick; rw [show tk T T = T from tk_old (Int.le_refl _)]))
  clear hS HC
  go_wp2_with fail
  refine HC2.out.mono ?_
  rintro e w5 ⟨v5, rfl, hE, hS⟩
  have HK := hide (S_code hS (HE.out _ (St.weaken (Ts := []) hS)) hE)
  clear hS HC2 hE
  go_wp2_with fail
  refine HK.out.mono ?_
  rintro e w6 ⟨rfl, hS⟩
  have HC := hide (S_check_is hS (i := 0) rfl (E - 1) T (k := 10) (Sit.cE_stale (by show E - 1 ≠ E; omega)) (s' := ⟨T, E, T + 10⟩) (by unfold Sit.tick; rw [show tk T T = T from tk_old (Int.le_refl _)]))
  clear hS HK
  go_wp2_with fail
  refine HC.out.mono ?_
  rintro e w7 ⟨v7, rfl, hE, hS⟩
  have HK := hide (S_code hS (HE.out _ (St.weaken (Ts := []) hS)) hE)
  clear hS HC hE
  go_wp2_with fail
  refine HK.out.mono ?_
  rintro e w8 ⟨rfl, hS⟩
  have HG := hide (Calls.ok (S_grant_is hS (i := 0) rfl ⟨t0, by show T ≤ _; omega, by show 0 ≤ E; omega, by show E ≤ _; omega, by show 0 ≤ T + 10; omega, by show T + 10 ≤ _; omega⟩ E U (k := 0) (Sit.gE_zero (by omega) (by show E ≤ E; omega)) (s' := ⟨U, E, U + 10⟩) (by rw [Sit.grant_ok (by omega) (by show E ≤ E; omega), tk_now (by show T ≤ U; exact HUT.out) (by omega)])))
  clear hS HK
  go_wp2_with fail
  refine HG.out.mono ?_
  rintro e w9 ⟨rfl, hS⟩
  have HS9 := hide (show St w1 [sitT q ⟨U, E, U + 10⟩] w9 from hS)
  clear hS HG
  go_wp2_with fail
  refine (S_epoch HS9.out (i := 0) rfl).mono ?_
  rintro e w10 ⟨rfl, hS⟩
  have HS10 := hide hS
  clear hS HS9
  by_cases hx : X < U + 10
  · have HC := hide (Calls.ok (S_check_is HS10.out (i := 0) rfl E X (k := 0) (Sit.cE_zero (by show E ≠ 0; omega) (by show tk U X < U + 10; rw [tk_now HXU.out (by omega)]; exact hx)) (s' := ⟨X, E, U + 10⟩) (by unfold Sit.tick; rw [show tk U X = X from tk_now HXU.out (by omega)])))
    clear HS10
    go_wp2_with fail
    refine HC.out.mono ?_
    rintro e w11 ⟨rfl, hS⟩
    have HB := hide (HB1.out.trans (hS.bel.mono HB1.out.size))
    clear hS HC
    go_wp2
    go_ret
    exact ⟨by simp, HB.out⟩
  · have HC := hide (Calls.no (S_check_is HS10.out (i := 0) rfl E X (k := 11) (Sit.cE_late (by show E ≠ 0; omega) (by show U + 10 ≤ tk U X; rw [tk_now HXU.out (by omega)]; omega)) (s' := ⟨X, E, U + 10⟩) (by unfold Sit.tick; rw [show tk U X = X from tk_now HXU.out (by omega)])) (by decide))
    clear HS10
    go_wp2_with fail
    refine HC.out.mono ?_
    rintro e w11 ⟨p, rfl, -, hS⟩
    have HB := hide (HB1.out.trans (hS.bel.mono HB1.out.size))
    clear hS HC
    go_wp2
    go_ret
    exact ⟨by simp; omega, HB.out⟩

end Go.Proofs.YtmbhnhfnimijcaaDoor.Le
