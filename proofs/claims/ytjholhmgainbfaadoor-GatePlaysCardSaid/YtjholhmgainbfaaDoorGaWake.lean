/-
  The statements' own awake: it returns true, and changes nothing that was there.
-/
import Derived.Test.YtjholhmgainbfaaDoorGaCalls
namespace Go.Proofs.YtjholhmgainbfaaDoor.Ga
open Go.RowKit
open Pk Dk

theorem built_five : Tryd.prog.built 32 [(0, .int .i64 5)] = some #[.int .i64 5, .int .i64 0, .string ⟨#[]⟩] := by kernel_rfl

set_option maxRecDepth 100000 in
set_option maxHeartbeats 2000000 in
theorem awake_any (w : World) : Calls Tryd.prog 6 #[] w fun r w' => r = .returned (.bool true) ∧ Below w.heap.size w w' := by
  go_enter Tryd.func6, Tryd.ntmps6
  go_wp2_with fail
  refine (New_any w).mono ?_
  rintro e w1 ⟨g, rfl, hg, hgl, hb1⟩
  have HG1 := hide hg
  have HL := hide hgl
  have HB1 := hide hb1
  clear hg hgl hb1
  go_wp2_with fail
  refine (Freeze_ok HG1.out 1 1 (by omega) (by omega) (by omega) (by omega) (Or.inr (by omega))).mono ?_
  rintro e w2 ⟨rfl, hp2⟩
  have HG2 := hide hp2.gate
  have HB2 := hide (HB1.out.trans (hp2.below (Nat.le_refl _) (Nat.le_of_lt HG1.out.lt) |>.mono HL.out))
  clear hp2 HG1 HB1
  go_wp2_with (refine wpList_built rfl 32 _ rfl _ built_five ?_)
  refine (Enter_in HG2.out (by omega) (by omega) ⟨5, 0, ⟨#[]⟩⟩).mono ?_
  rintro e w3 ⟨rfl, hp3⟩
  have HG3 := hide hp3.gate
  have HB3 := hide (HB2.out.trans (hp3.below (Nat.le_refl _) (Nat.le_of_lt HG2.out.lt) |>.mono HL.out))
  clear hp3 HG2 HB2
  go_wp2_with fail
  refine (Tick_last HG3.out).mono ?_
  rintro e w4 ⟨v, rfl, hr, hp4⟩
  have HB4 := hide (HB3.out.trans (hp4.below (Nat.le_refl _) (Nat.le_of_lt HG3.out.lt) |>.mono HL.out))
  obtain ⟨A, c, rfl, h1, h2, h3⟩ := hr.form
  obtain ⟨b, rfl, _, _, hc⟩ := h3 (by decide)
  have hc0 : w4.cell? ⟨b, 0, none⟩ = some (.int .i64 5) := (hc 0 ⟨5, 0, ⟨#[]⟩⟩ rfl).1
  clear hr hp4 HG3 HB3 h1 h2 h3 hc
  go_wp2_with fail
  refine (Known_any 7 w4).mono ?_
  rintro e w' ⟨rfl, rfl⟩
  go_wp2
  go_ret
  exact ⟨rfl, HB4.out⟩

end Go.Proofs.YtjholhmgainbfaaDoor.Ga
