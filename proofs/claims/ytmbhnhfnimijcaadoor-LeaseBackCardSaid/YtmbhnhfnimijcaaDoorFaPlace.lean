/-
  A fault's place, as text: its name, a space, its digits. Nothing below is changed. Conditions: the fault is there; the name has at most 200 bytes; the number's digits can be told.
-/
import Derived.Test.YtmbhnhfnimijcaaDoorFaCode
namespace Go.Proofs.YtmbhnhfnimijcaaDoor.Fa
open Go.RowKit
open Pk Sm

theorem drew_below {w w1 : World} (h : Below w.drew.heap.size w.drew w1) : Below w.heap.size w w1 := ⟨h.os, h.tape, h.output, h.size, h.block⟩
/-- Two strings, one behind the other. -/
theorem run_add (l m : List UInt8) (h : l.length + m.length ≤ 1000000) (W : World) : (Op.stringOp .add (str l) (str m)).run Tryd.prog W = .ok (.string (str (l ++ m))) W := by
  rw [← str_append]
  exact run_string_add_sum (P := Tryd.prog) (w := W) _ _ (by rw [str_size, str_size]; omega)

theorem Dig.int {w : World} {n : Int} (h : Dig w n) : Int64 n := by
  rcases h with ⟨h0, h1⟩ | ⟨_, h⟩
  · exact ⟨by omega, by omega⟩
  · exact h
theorem itoa_le {w : World} {n : Int} (h : Dig w n) : (Lib.itoa n).length ≤ 21 := Lib.itoa_length_le n h.int.1 h.int.2
theorem plc_le {w : World} {op : ByteArray} {n : Int} (h : Dig w n) (hs : op.size ≤ 200) : (plc op n).length ≤ 222 := by
  have := itoa_le h
  unfold plc
  rw [List.length_append, List.length_append, size_eq]
  simp
  omega

end Go.Proofs.YtmbhnhfnimijcaaDoor.Fa
