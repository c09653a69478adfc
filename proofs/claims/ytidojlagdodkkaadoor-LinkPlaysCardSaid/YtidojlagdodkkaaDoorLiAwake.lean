/-
  The contract of isobarlaw10.awake: it returns true, and changes nothing that was there.
-/
import Derived.Test.YtidojlagdodkkaaDoorLiPlay
namespace Go.Proofs.YtidojlagdodkkaaDoor.Li
open Go.RowKit
open Pk Dk Wn Lk

set_option maxRecDepth 100000 in
set_option maxHeartbeats 4000000 in
theorem awake_any (w : World) : Calls Tryd.prog 7 #[] w fun e w' => e = .returned (.bool true) ∧ Below w.heap.size w w' := by
  go_enter Tryd.func7, Tryd.ntmps7
  go_wp2_with fail
  refine (New_st (St.start w) 2).mono ?_
  rintro e w1 ⟨p, rfl, HS1⟩
  go_wp2_with fail
  refine (Send_room HS1.out (i := 0) rfl 7 (by decide)).mono ?_
  rintro e w2 ⟨rfl, HS2⟩
  clear HS1
  go_wp2_with fail
  refine (Double_at HS2.out (i := 0) rfl 0 7 rfl (by decide)).mono ?_
  rintro e w3 ⟨rfl, HS3⟩
  clear HS2
  go_wp2_with fail
  refine (Len_st HS3.out (i := 0) rfl).mono ?_
  rintro e w4 ⟨rfl, hb4⟩
  have HS4 := hide (HS3.out.below hb4)
  clear hb4 HS3
  go_wp2_with fail
  refine (Deliver_at HS4.out (i := 0) rfl 1 7 rfl).mono ?_
  rintro e w5 ⟨rfl, HS5⟩
  clear HS4
  go_wp2_with fail
  refine (Len_st HS5.out (i := 0) rfl).mono ?_
  rintro e w6 ⟨rfl, hb6⟩
  have HB6 := hide (HS5.out.below hb6).bel
  clear hb6 HS5
  go_wp2
  go_ret
  exact ⟨rfl, HB6.out⟩

end Go.Proofs.YtidojlagdodkkaaDoor.Li
