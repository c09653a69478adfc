/-
  The contract of the statements' own awake: it returns true, and changes nothing that was there.
-/
import Derived.Test.YtenenhhijkjjfaaDoorMkWalk
namespace Go.Proofs.YtenenhhijkjjfaaDoor.Mk
open Go.RowKit Go.Maps
open Pk Dk Wn Lk

/-- What awake puts in. -/
def two : Int → List Int := put (put (fun _ => []) 0 2) 1 2
theorem two_new : New two [0, 1] 2 := ⟨by decide, Or.inr ⟨by decide, fun v hv => by
  rcases List.mem_cons.1 hv with rfl | hv
  · decide
  · rcases List.mem_cons.1 hv with rfl | hv
    · decide
    · cases hv⟩, fun _ m hm => by
  have := hm 0 (by simp)
  have e : two 0 = [2] := by decide
  rw [e] at this
  simp at this
  omega⟩
set_option maxRecDepth 100000 in
set_option maxHeartbeats 4000000 in
theorem awake_any (w : World) : Calls Tryd.prog 5 #[] w fun e w' => e = .returned (.bool true) ∧ Below w.heap.size w w' := by
  have HS0 := hide (St.tbl_new (St.start w))
  have HP := hide (S_put_ok (v := 0) (m := 2) HS0.out (i := 0) rfl (by decide) (by decide) (by decide))
  go_enter Tryd.func5, Tryd.ntmps5
  go_wp2_with fail
  refine HP.out.mono ?_
  rintro e w1 ⟨rfl, hS⟩
  have HP1 := hide (S_put_ok (v := 1) (m := 2) hS (i := 0) rfl (by decide) (by decide) (by decide))
  clear HS0 HP hS
  go_wp2_with fail
  refine HP1.out.mono ?_
  rintro e w2 ⟨rfl, hS⟩
  have HS2 := hide (show St w [tblT w.heap.size two 4] w2 from hS)
  have HM := (Made.row (Below.refl _ w2) #[.int .i64 0, .int .i64 1] 3)
  have HN := hide (S_newest (HS2.out.below HM.bel) (i := 0) rfl (some ⟨w2.heap.size, 0, none⟩) 2 2 [0, 1] rfl (by decide) HM.src (fun v hv => by
    rcases List.mem_cons.1 hv with rfl | hv
    · unfold I64; decide
    · rcases List.mem_cons.1 hv with rfl | hv
      · unfold I64; decide
      · cases hv))
  clear HP1 hS HM HS2
  go_wp2_with fail
  refine HN.out.mono ?_
  rintro e w3 ⟨⟨r, rfl, hr⟩, hS⟩
  obtain rfl := hr.uniq two_new
  have HO := hide (S_of hS (i := 0) rfl (by decide) (u := 0) (by unfold I64; decide))
  rw [show two 0 = [2] by decide] at HO
  clear hS hr HN
  go_wp2_with fail
  refine HO.out.mono ?_
  rintro e w4 ⟨VA, c, rfl, hS⟩
  have HB := hide hS.bel
  clear hS HO
  go_wp2
  go_ret
  exact ⟨rfl, HB.out⟩

end Go.Proofs.YtenenhhijkjjfaaDoor.Mk
