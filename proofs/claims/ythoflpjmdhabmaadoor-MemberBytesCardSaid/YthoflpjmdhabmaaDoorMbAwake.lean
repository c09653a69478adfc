/-
  The contract of the statements' own awake: it returns true, and changes nothing that was there.
-/
import Derived.Test.YthoflpjmdhabmaaDoorMbWalk
namespace Go.Proofs.YthoflpjmdhabmaaDoor.Mb
open Go.RowKit
open Pk Dk Wn Lk

set_option maxRecDepth 100000 in
set_option maxHeartbeats 4000000 in
theorem awake_any (w : World) : Calls Tryd.prog 7 #[] w fun e w' => e = .returned (.bool true) ∧ Below w.heap.size w w' := by
  have HM := (Made.row (Below.refl _ w) #[.int .i64 0, .int .i64 1] 3)
  have HN := hide (New_any (some ⟨w.heap.size, 0, none⟩) 2 2 [0, 1] (w.alloc (.cells #[.int .i64 0, .int .i64 1] 3)) rfl (by decide) HM.src)
  have HB0 := hide HM.bel
  clear HM
  go_enter Tryd.func7, Tryd.ntmps7
  go_wp2_with fail
  refine HN.out.mono ?_
  generalize World.alloc _ _ = w1 at *
  intro e w2 hnew
  have hnew' : e = .returned (.tuple #[.pointer (some ⟨w1.heap.size, 0, none⟩), .nilIface]) ∧ St w1 [grpT w1.heap.size 3 []] w2 := hnew
  obtain ⟨rfl, hS⟩ := hnew'
  have HA := hide (S_add hS (i := 0) rfl Fine.nil (by decide) 2 5)
  generalize w1.heap.size = p at *
  clear HN hnew hS
  go_wp2_with fail
  refine HA.out.mono ?_
  rintro e w3 ⟨hr, hS⟩
  have hk : chk 3 [] 2 5 false = 0 := by decide
  rw [hk] at hr
  obtain rfl := hr.ok
  have hF : Fine 3 [⟨5, 2, false⟩] := Fine.snoc (L := []) (c := ⟨5, 2, false⟩) Fine.nil hk
  have HF := hide hF
  have HS3 := hide (show St w1 [grpT p 3 [⟨5, 2, false⟩]] w3 from hS)
  have HL := hide (S_last HS3.out (i := 0) rfl hF)
  clear hS HA hk hF
  go_wp2_with fail
  refine HL.out.mono ?_
  rintro e w4 ⟨rfl, hS⟩
  have HT := hide (S_at hS (i := 0) rfl HF.out (by decide) 4)
  rw [show vols (atS 3 [⟨5, 2, false⟩] 4) 4 = [0, 1] by decide] at HT
  rw [show last [⟨5, 2, false⟩] = 5 by decide]
  clear hS HL HS3
  go_wp2_with fail
  refine HT.out.mono ?_
  rintro e w5 ⟨VA, c, rfl, hS⟩
  have HO := hide (S_now hS (i := 0) rfl HF.out (by decide))
  rw [show vols (atS 3 [⟨5, 2, false⟩] (last [⟨5, 2, false⟩])) 4 = [0, 1, 2] by decide] at HO
  clear hS HT
  go_wp2_with fail
  refine HO.out.mono ?_
  rintro e w6 ⟨VB, d, rfl, hS⟩
  have HB := hide (HB0.out.trans (hS.bel.mono HB0.out.size))
  clear hS HO HB0
  go_wp2
  go_ret
  exact ⟨rfl, HB.out⟩

end Go.Proofs.YthoflpjmdhabmaaDoor.Mb
