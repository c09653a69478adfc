/-
  The statements' first call, awake: it returns true, and changes nothing that was there.
-/
import Derived.Test.YtjiihkpbeogbcaaDoorSmSector
namespace Go.Proofs.YtjiihkpbeogbcaaDoor.Sm
open Go.RowKit
open Pk

theorem byt_marked {w : World} {g t : Nat} {fr : Nat × Nat} {l : List UInt8} (hg : w.heap[g]? = some (.cells (cels l).toArray t fr)) : Byt w w.heap.size (some ⟨g, 0, none⟩) l := fun _ => by
  refine ⟨g, 0, rfl, (Array.getElem?_eq_some_iff.1 hg).1, fun j u hu => ?_⟩
  have hj : (cels l)[j]? = some (cel u) := by simp [cels, hu]
  simp only [World.cell?, hg, Nat.zero_add]
  simp [hj]

theorem nine (w : World) : ∃ w1 : World, (convert 23 23 (.slice (some ⟨w.heap.size, 0, none⟩) 9 9)).run Tryd.prog (w.alloc (.cells #[.int .u8 49, .int .u8 50, .int .u8 51, .int .u8 52, .int .u8 53, .int .u8 54, .int .u8 55, .int .u8 56, .int .u8 57] 5)) = .ok (.slice (some ⟨w.heap.size, 0, none⟩) 9 9) w1 ∧
    Byt w1 w1.heap.size (some ⟨w.heap.size, 0, none⟩) [49, 50, 51, 52, 53, 54, 55, 56, 57] ∧ Below w.heap.size w w1 := by
  refine ⟨_, Lib.run_convert_bytes_const w 23 5 _ 9 9 Tryd.underlying23 Tryd.underlying5, byt_marked (fr := (9, 10)) (t := 5) ?_, (Below.refl _ _).alloc (Nat.le_refl _) _⟩
  exact heap_alloc_new w _

set_option maxHeartbeats 1000000 in
theorem awake_any (w : World) (ht : Tab w) : Calls Tryd.prog 9 #[] w fun r w' => r = .returned (.bool true) ∧ Below w.heap.size w w' := by
  obtain ⟨w1, hcv, hb1, hbel1⟩ := nine w
  have hpos := ht.pos
  have ht1 := ht.below hbel1 hpos
  have hO := Of_any _ 9 9 _ _ w1 rfl (by unfold maxLen; omega) ht1 hb1
  rw [crc_nine] at hO
  have HO := hide hO
  have HS := hide (Seal_told none [] 0 0 w1 rfl Byt.nil ht1 (by omega))
  have Hbel := hide hbel1
  clear hO hb1 hbel1 ht1
  go_enter Tryd.func9, Tryd.ntmps9
  go_wp2_with fail
  refine HO.out.mono ?_
  rintro r w' ⟨rfl, rfl⟩
  clear hcv
  go_wp2_with fail
  refine HS.out.mono ?_
  rintro r w2 ⟨b, o, c, rfl, hc1, hc2, _, _, hb2⟩
  have HB := hide (Hbel.out.trans (hb2.mono Hbel.out.size))
  clear hb2
  go_wp2
  go_ret
  exact ⟨rfl, HB.out⟩

end Go.Proofs.YtjiihkpbeogbcaaDoor.Sm
