/-
  The contract of the statements' own awake: it returns true, and changes nothing that was there. Condition: the library's variable errors.errorType holds what the program's own text lays.
-/
import Derived.Test.YtmbhnhfnimijcaaDoorLeWalk
namespace Go.Proofs.YtmbhnhfnimijcaaDoor.Le
open Go.RowKit
open Pk Sm Fa Dk Wn Lk

set_option maxRecDepth 100000 in
set_option maxHeartbeats 4000000 in
theorem awake_any (w : World) (hty : Ety w) : Calls Tryd.prog 9 #[] w fun e w' => e = .returned (.bool true) ∧ Below w.heap.size w w' := by
  have HE : Hid (∀ W, St w [] W → Ety W) := fun W hW => Ety.below hty hW.bel hty.lt
  have HA := hide (St.new_fence (St.start w))
  clear hty
  go_enter Tryd.func9, Tryd.ntmps9
  go_wp2_with fail
  generalize World.alloc _ _ = w1 at *
  have HA1 := hide (show St w [fenT w.heap.size f0] w1 from HA.out)
  clear HA
  have HP := hide (S_prom_is HA1.out (i := 0) rfl f0_ok 0 (by decide) (a := 1) (b := 0) (by decide) (by decide) rfl)
  generalize w.heap.size = p at HA1 HP ⊢
  refine HP.out.mono ?_
  rintro e w2 ⟨rfl, hS⟩
  have HS2 := hide (show St w [] w2 from St.weaken (Ts := []) hS)
  have HB := hide (St.new_site HS2.out)
  clear hS HP HA1
  go_wp2_with fail
  generalize World.alloc _ _ = w3 at *
  have HS3 := hide (show St w [sitT w2.heap.size s0] w3 from HB.out)
  clear HB HS2
  generalize w2.heap.size = q at *
  refine (Calls.ok (S_grant_is HS3.out (i := 0) rfl s0_ok 1 3 (k := 0) (by decide) (s' := ⟨3, 1, 13⟩) (Sit.grant_ok (by decide) (by decide)))).mono ?_
  rintro e w4 ⟨rfl, hS⟩
  have HS4 := hide (show St w [sitT q ⟨3, 1, 13⟩] w4 from hS)
  clear hS HS3
  go_wp2_with fail
  refine (Calls.ok (S_check_is HS4.out (i := 0) rfl 1 12 (k := 0) (by decide) (s' := ⟨12, 1, 13⟩) rfl)).mono ?_
  rintro e w5 ⟨rfl, hS⟩
  have HS5 := hide (show St w [sitT q ⟨12, 1, 13⟩] w5 from hS)
  clear hS HS4
  go_wp2_with fail
  refine (S_check_is HS5.out (i := 0) rfl 1 13 (k := 11) (by decide) (s' := ⟨13, 1, 13⟩) rfl).mono ?_
  rintro e w6 ⟨v, rfl, hE, hS⟩
  have HC := hide (S_code hS (HE.out _ (St.weaken (Ts := []) hS)) hE)
  clear hS HS5 hE
  go_wp2_with fail
  refine HC.out.mono ?_
  rintro e w7 ⟨rfl, hS⟩
  have HB7 := hide hS.bel
  clear hS HC
  go_wp2
  go_ret
  exact ⟨rfl, HB7.out⟩

end Go.Proofs.YtmbhnhfnimijcaaDoor.Le
