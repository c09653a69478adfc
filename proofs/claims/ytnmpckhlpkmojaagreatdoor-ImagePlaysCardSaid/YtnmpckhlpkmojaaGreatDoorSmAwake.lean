/-
  The statements' first call, awake: it returns true, and changes nothing that was there.
-/
import Derived.Test.YtnmpckhlpkmojaaGreatDoorSmSector
namespace Go.Proofs.YtnmpckhlpkmojaaGreatDoor.Sm
open Go.RowKit
open Pk

theorem byt_marked {w : World} {g t : Nat} {fr : Nat × Nat} {l : List UInt8} (hg : w.heap[g]? = some (.cells (cels l).toArray t fr)) : Byt w w.heap.size (some ⟨g, 0, none⟩) l := fun _ => by
  refine ⟨g, 0, rfl, (Array.getElem?_eq_some_iff.1 hg).1, fun j u hu => ?_⟩
  have hj : (cels l)[j]? = some (cel u) := by simp [cels, hu]
  simp only [World.cell?, hg, Nat.zero_add]
  simp [hj]

theorem nine (w : World) : ∃ w1 : World, (convert 60 60 (.slice (some ⟨w.heap.size, 0, none⟩) 9 9)).run Tryz.prog (w.alloc (.cells #[.int .u8 49, .int .u8 50, .int .u8 51, .int .u8 52, .int .u8 53, .int .u8 54, .int .u8 55, .int .u8 56, .int .u8 57] 5)) = .ok (.slice (some ⟨w.heap.size, 0, none⟩) 9 9) w1 ∧
    Byt w1 w1.heap.size (some ⟨w.heap.size, 0, none⟩) [49, 50, 51, 52, 53, 54, 55, 56, 57] ∧ Below w.heap.size w w1 := by
  refine ⟨_, Lib.run_convert_bytes_const w 60 5 _ 9 9 Tryz.underlying60 Tryz.underlying5, byt_marked (fr := (9, 10)) (t := 5) ?_, (Below.refl _ _).alloc (Nat.le_refl _) _⟩
  exact heap_alloc_new w _

end Go.Proofs.YtnmpckhlpkmojaaGreatDoor.Sm
