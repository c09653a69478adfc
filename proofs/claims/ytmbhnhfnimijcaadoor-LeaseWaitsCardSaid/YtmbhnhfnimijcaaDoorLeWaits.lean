/-
  LeaseWaits at all times: it returns true, and changes nothing that was there. Condition: the library's variable errors.errorType holds what the program's own text lays.
-/
import Derived.Lib.MinMax
import Derived.Test.YtmbhnhfnimijcaaDoorLeAwake
namespace Go.Proofs.YtmbhnhfnimijcaaDoor.Le
open Go.RowKit
open Pk Sm Fa Dk Wn Lk

set_option maxRecDepth 100000 in
set_option maxHeartbeats 4000000 in
theorem Waits_any (m0 m1 m2 : Nat) (w : World) (hty : Ety w) (h0 : m0 < 65536) (h1 : m1 < 65536) (h2 : m2 < 65536) :
    Calls Tryd.prog 5 #[.int .u16 (m0 : Int), .int .u16 (m1 : Int), .int .u16 (m2 : Int)] w fun e w' => e = .returned (.bool true) ∧ Below w.heap.size w w' := by
  have HE0 : Hid (∀ W, Below w.heap.size w W → Ety W) := fun W hW => Ety.below hty hW hty.lt
  have HA := hide (awake_any w hty)
  clear hty
  obtain ⟨F, hF⟩ : ∃ F : Int, (m0 : Int) = F := ⟨_, rfl⟩
  obtain ⟨A, hA⟩ : ∃ A : Int, F + (m1 : Int) = A := ⟨_, rfl⟩
  obtain ⟨T, hT⟩ : ∃ T : Int, A + (m2 : Int) = T := ⟨_, rfl⟩
  obtain ⟨M, hM⟩ : ∃ M : Int, max T (A + 10) = M := ⟨_, rfl⟩
  obtain ⟨f0', f1'⟩ : 0 ≤ F ∧ F ≤ 65535 := by omega
  obtain ⟨a0, a1⟩ : 0 ≤ A ∧ A ≤ 131070 := by omega
  obtain ⟨t0, t1⟩ : 0 ≤ T ∧ T ≤ 196605 := by omega
  obtain ⟨M0, M1⟩ : 0 ≤ M ∧ M ≤ 196625 := by omega
  have HFA := hide (show F ≤ A by omega)
  have HAT := hide (show A ≤ T by omega)
  have HTM := hide (show T ≤ M by omega)
  have HM := hide hM
  have hFm : F + (m1 : Int) = A := hA
  have hMm : IntKind.i64.wrap (M - 1) = M - 1 := by rw [IntKind.wrap_i64]; omega
  go_enter Tryd.func5, Tryd.ntmps5
  go_wp2_with fail
  refine HA.out.mono ?_
  rintro e w1 ⟨rfl, hb⟩
  have HE : Hid (∀ W, St w1 [] W → Ety W) := fun W hW => HE0.out W (hb.trans (hW.bel.mono hb.size))
  have HB1 := hide hb
  have HN := hide (St.new_fence (St.start w1))
  clear hb HA HE0
  go_wp2_with fail
  generalize World.alloc _ _ = w2 at *
  have HS2 := hide (show St w1 [fenT w1.heap.size f0] w2 from HN.out)
  clear HN
  have HP := hide (S_prom_is HS2.out (i := 0) rfl f0_ok F (by first | decide | (dsimp only; omega)) (a := 1) (b := F) (by first | decide | (dsimp only; omega)) (by show max (tk 0 F) 0 = F; rw [tk_now f0' (by omega)]; omega) (s' := ⟨F, 1, F, 0⟩) (by rw [Fen.prom_ok (by first | decide | (dsimp only; omega))]; show Fen.mk (tk 0 F) (0 + 1) (max (tk 0 F) 0) 0 = _; rw [tk_now f0' (by omega), show max F 0 = F by omega]; rfl))
  clear HS2
  generalize w1.heap.size = q at HP ⊢
  refine HP.out.mono ?_
  rintro e w3 ⟨rfl, hS⟩
  have HR := hide (Calls.ok (S_renew_is hS (i := 0) rfl ⟨f0', by show F ≤ _; omega, by first | decide | (dsimp only; omega), by first | decide | (dsimp only; omega), f0', by show F ≤ _; omega, by first | decide | (dsimp only; omega), by first | decide | (dsimp only; omega)⟩ 1 A (k := 0) (Fen.rE_zero (s := ⟨F, 1, F, 0⟩) (by first | decide | (dsimp only; omega)) (by show F ≤ tk F A; exact tk_ge _ _)) (s' := ⟨A, 1, F, A + 10⟩) (by rw [show (1 : Int) = (Fen.mk F 1 F 0).l from rfl, Fen.renew_ok (s := ⟨F, 1, F, 0⟩) (by first | decide | (dsimp only; omega)) (by show F ≤ tk F A; exact tk_ge _ _), tk_now (by show F ≤ A; exact HFA.out) (by omega)])))
  clear hS HP
  go_wp2_with fail
  refine HR.out.mono ?_
  rintro e w4 ⟨rfl, hS⟩
  have HP := hide (S_prom_is hS (i := 0) rfl ⟨a0, by show A ≤ _; omega, by first | decide | (dsimp only; omega), by first | decide | (dsimp only; omega), f0', by show F ≤ _; omega, by show 0 ≤ A + 10; omega, by show A + 10 ≤ _; omega⟩ T (by first | decide | (dsimp only; omega)) (a := 2) (b := M) (by first | decide | (dsimp only; omega)) (by show max (tk A T) (A + 10) = M; rw [tk_now HAT.out (by omega)]; exact hM) (s' := ⟨T, 2, M, A + 10⟩) (by rw [Fen.prom_ok (by show (1 : Int) < _; decide)]; show Fen.mk (tk A T) (1 + 1) (max (tk A T) (A + 10)) (A + 10) = _; rw [tk_now HAT.out (by omega), hM]; rfl))
  clear hS HR
  go_wp2_with fail
  refine HP.out.mono ?_
  rintro e w5 ⟨rfl, hS⟩
  have HO2 : Hid (Fen.mk T 2 M (A + 10)).Ok := ⟨t0, by show T ≤ _; omega, by first | decide | (dsimp only; omega), by first | decide | (dsimp only; omega), by show 0 ≤ M; omega, by show M ≤ _; omega, by show 0 ≤ A + 10; omega, by show A + 10 ≤ _; omega⟩
  have HR := hide (S_renew_is hS (i := 0) rfl HO2.out 1 T (k := 10) (Fen.rE_stale (by first | decide | (dsimp only; omega))) (s' := ⟨T, 2, M, A + 10⟩) (by rw [Fen.renew_no (by rw [Fen.rE_stale (by first | decide | (dsimp only; omega))]; decide)]; unfold Fen.tick; rw [show tk T T = T from tk_old (Int.le_refl _)]))
  clear hS HP
  go_wp2_with fail
  refine HR.out.mono ?_
  rintro e w6 ⟨v6, rfl, hE, hS⟩
  have HK := hide (S_code hS (HE.out _ (St.weaken (Ts := []) hS)) hE)
  clear hS HR hE
  go_wp2_with fail
  refine HK.out.mono ?_
  rintro e w7 ⟨rfl, hS⟩
  have HS7 := hide (show St w1 [fenT q ⟨T, 2, M, A + 10⟩] w7 from hS)
  clear hS HK
  have END : Hid (∀ (W : World) (X : Int), T ≤ X → X ≤ M → St w1 [fenT q ⟨X, 2, M, A + 10⟩] W → Calls Tryd.prog 19 #[.pointer (some ⟨q, 0, none⟩), .int .i64 M] W fun r w' => r = .returned (.int .i64 2) ∧ St w1 [fenT q ⟨M, 2, M, A + 10⟩] w') := fun W X hX hX2 h =>
    S_holds_is h (i := 0) rfl M (k := 2) (by unfold Fen.hold; rw [if_neg (by show ¬ tk X M < M; rw [tk_now hX2 (by omega)]; omega)]) (s' := ⟨M, 2, M, A + 10⟩) (by unfold Fen.tick; rw [show tk X M = M from tk_now hX2 (by omega)])
  have END2 : Hid (∀ (W : World), St w1 [fenT q ⟨M, 2, M, A + 10⟩] W → Calls Tryd.prog 17 #[.pointer (some ⟨q, 0, none⟩), .int .i64 2, .int .i64 M] W fun r w' => r = .returned .nilIface ∧ Below w1.heap.size w1 w') := fun W h =>
    (Calls.ok (S_renew_is h (i := 0) rfl ⟨M0, by show M ≤ _; omega, by first | decide | (dsimp only; omega), by first | decide | (dsimp only; omega), M0, by show M ≤ _; omega, by show 0 ≤ A + 10; omega, by show A + 10 ≤ _; omega⟩ 2 M (k := 0) (Fen.rE_zero (s := ⟨M, 2, M, A + 10⟩) (by first | decide | (dsimp only; omega)) (by show M ≤ tk M M; exact tk_ge _ _)) rfl)).mono fun _ _ ⟨h1, h2⟩ => ⟨h1, h2.bel⟩
  by_cases hc : T < M
  · have HC := hide hc
    have HH := hide (S_holds_is HS7.out (i := 0) rfl (M - 1) (k := 0) (by unfold Fen.hold; rw [if_pos (by show tk T (M - 1) < M; rw [tk_now (by omega) (by omega)]; omega)]) (s' := ⟨M - 1, 2, M, A + 10⟩) (by unfold Fen.tick; rw [show tk T (M - 1) = M - 1 from tk_now (by omega) (by omega)]))
    clear HS7
    go_wp2_with fail
    refine HH.out.mono ?_
    rintro e w8 ⟨rfl, hS⟩
    have hrE : (Fen.mk (M - 1) 2 M (A + 10)).rE 2 (M - 1) = 9 := Fen.rE_early (s := ⟨M - 1, 2, M, A + 10⟩) (by first | decide | (dsimp only; omega)) (by show tk (M - 1) (M - 1) < M; rw [tk_old (Int.le_refl _)]; omega)
    have HR := hide (S_renew_is hS (i := 0) rfl ⟨by show 0 ≤ M - 1; omega, by show M - 1 ≤ _; omega, by first | decide | (dsimp only; omega), by first | decide | (dsimp only; omega), M0, by show M ≤ _; omega, by show 0 ≤ A + 10; omega, by show A + 10 ≤ _; omega⟩ 2 (M - 1) (k := 9) hrE (s' := ⟨M - 1, 2, M, A + 10⟩) (by rw [Fen.renew_no (by rw [hrE]; decide)]; unfold Fen.tick; rw [show tk (M - 1) (M - 1) = M - 1 from tk_old (Int.le_refl _)]))
    clear hS HH hrE
    go_wp2_with fail
    refine HR.out.mono ?_
    rintro e w9 ⟨v9, rfl, hE, hS⟩
    have HK := hide (S_code hS (HE.out _ (St.weaken (Ts := []) hS)) hE)
    clear hS HR hE
    go_wp2_with fail
    refine HK.out.mono ?_
    rintro e w10 ⟨rfl, hS⟩
    have HH := hide (END.out w10 (M - 1) (by omega) (by omega) hS)
    clear hS HK END
    go_wp2_with fail
    refine HH.out.mono ?_
    rintro e w11 ⟨rfl, hS⟩
    have HR := hide (END2.out w11 hS)
    clear hS HH END2
    go_wp2_with fail
    refine HR.out.mono ?_
    rintro e w12 ⟨rfl, hb⟩
    have HB := hide (HB1.out.trans (hb.mono HB1.out.size))
    clear hb HR
    go_wp2
    go_ret
    exact ⟨rfl, HB.out⟩
  · have hle : M ≤ T := by omega
    have HH := hide (END.out w7 T (Int.le_refl _) HTM.out HS7.out)
    clear HS7 END
    go_wp2_with fail
    refine HH.out.mono ?_
    rintro e w11 ⟨rfl, hS⟩
    have HR := hide (END2.out w11 hS)
    clear hS HH END2
    go_wp2_with fail
    refine HR.out.mono ?_
    rintro e w12 ⟨rfl, hb⟩
    have HB := hide (HB1.out.trans (hb.mono HB1.out.size))
    clear hb HR
    go_wp2
    go_ret
    exact ⟨rfl, HB.out⟩

end Go.Proofs.YtmbhnhfnimijcaaDoor.Le
