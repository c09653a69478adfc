/-
  The walk of RecordKinds: for every generation, number, block, data and marker it returns true; nothing that was there is changed. Condition: the table of half bytes holds what the program's own text lays.
-/
import Derived.OpenShut
import Derived.Test.YtapiogcoipeinaaGreatDoorU16
namespace Go.Proofs.YtapiogcoipeinaaGreatDoor.Rc
open Go.RowKit
open Pk Sm Fa
theorem two_boxes (w : World) (s k b : Int) (d : ByteArray) (m : Int) (s' k' b' : Int) (d' : ByteArray) (m' : Int) :
 Bx ((w.alloc (.cells #[.int .i64 s, .int .i64 k, .int .i64 b, .string d, .int .i64 m] 100)).alloc (.cells #[.int .i64 s', .int .i64 k', .int .i64 b', .string d', .int .i64 m'] 100)) w.heap.size s k b d m ∧
 Bx ((w.alloc (.cells #[.int .i64 s, .int .i64 k, .int .i64 b, .string d, .int .i64 m] 100)).alloc (.cells #[.int .i64 s', .int .i64 k', .int .i64 b', .string d', .int .i64 m'] 100)) (w.heap.size + 1) s' k' b' d' m' ∧
 Below w.heap.size w ((w.alloc (.cells #[.int .i64 s, .int .i64 k, .int .i64 b, .string d, .int .i64 m] 100)).alloc (.cells #[.int .i64 s', .int .i64 k', .int .i64 b', .string d', .int .i64 m'] 100)) := by
 have h2 := box_below (w.alloc (.cells #[.int .i64 s, .int .i64 k, .int .i64 b, .string d, .int .i64 m] 100)) s' k' b' d' m'
 have h1 := box_below w s k b d m
 exact ⟨(Bx.new w s k b d m).below h2, heap_alloc2_new w _ _, h1.trans (h2.mono h1.size)⟩
end Go.Proofs.YtapiogcoipeinaaGreatDoor.Rc
