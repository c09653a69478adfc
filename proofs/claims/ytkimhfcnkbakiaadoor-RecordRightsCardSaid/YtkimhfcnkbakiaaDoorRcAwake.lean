/-
  The statements' first call, awake: it returns true, and changes nothing that was there. Condition: the table of half bytes holds what the program's own text lays.
-/
import Derived.Test.YtkimhfcnkbakiaaDoorRcDecode
namespace Go.Proofs.YtkimhfcnkbakiaaDoor.Rc
open Go.RowKit
open Pk Sm Fa

theorem bod_first : bod 2 1 2 0 ⟨#[]⟩ 7 = [2, 1, 2, 7] := by decide
theorem sec_first : ∃ r, sec 2 1 2 0 ⟨#[]⟩ 7 = 2 :: 1 :: 2 :: 7 :: r := by
  unfold sec
  rw [bod_first]
  exact ⟨_, rfl⟩

set_option maxRecDepth 100000 in
set_option maxHeartbeats 1000000 in
theorem awake_any (w : World) (ht : Tab w) : Calls Tryd.prog 9 #[] w fun r w' => r = .returned (.bool true) ∧ Below w.heap.size w w' := by
  have HE := hide (Encode_good 2 1 2 0 ⟨#[]⟩ 7 w (by decide) (by decide) ht)
  go_enter Tryd.func9, Tryd.ntmps9
  go_wp2_with fail
  refine HE.out.mono ?_
  rintro r w1 ⟨p, o, c, rfl, hc1, hc2, _, hby, hb1⟩
  obtain ⟨rest, hs⟩ := sec_first
  have hx0 : w1.cell? ⟨p, o, none⟩ = some (.int .u8 2) := by
    have := byt_at hby 0 2 (by rw [hs]; rfl)
    exact this
  have hx3 : w1.cell? ⟨p, o + 3, none⟩ = some (.int .u8 7) := by
    have := byt_at hby 3 7 (by rw [hs]; rfl)
    exact this
  have HB := hide hb1
  clear HE hby hb1 hs
  go_wp2
  go_ret
  exact ⟨rfl, HB.out⟩

end Go.Proofs.YtkimhfcnkbakiaaDoor.Rc
