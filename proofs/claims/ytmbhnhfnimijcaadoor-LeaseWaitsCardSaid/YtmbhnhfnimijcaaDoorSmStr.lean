/-
  Strings and slices of bytes: a list as a string; what string(b) gives. Plain theorems, for every world.
-/
import Derived.Lib.ConvBytes
import Derived.Lib.SlBytesConst
import Derived.Test.YtmbhnhfnimijcaaDoorPkMem
namespace Go.Proofs.YtmbhnhfnimijcaaDoor.Sm
open Go.RowKit
open Pk

/-- A list's bytes as a string. -/
def str (l : List UInt8) : ByteArray := ⟨l.toArray⟩
theorem str_data (l : List UInt8) : (str l).data.toList = l := rfl
theorem str_size (l : List UInt8) : (str l).size = l.length := by simp [str, ByteArray.size]
theorem str_of (s : ByteArray) : str s.data.toList = s := rfl
theorem str_inj {l m : List UInt8} : str l = str m ↔ l = m := by
  constructor
  · intro h
    have := congrArg (fun s : ByteArray => s.data.toList) h
    exact this
  · rintro rfl; rfl
theorem size_eq (s : ByteArray) : s.data.toList.length = s.size := Array.length_toList

theorem nums_str (l : List UInt8) : strOfNums (l.map fun b => (b.toNat : Int)) = str l := by
  unfold strOfNums str
  congr 2
  rw [List.map_map]
  conv => rhs; rw [← List.map_id l]
  apply List.map_congr_left
  intro b _
  simp

/-- Strings held one against the other. -/
theorem str_same (l m : List UInt8) : ((str l).toList == (str m).toList) = decide (l = m) := by
  rw [ByteArray.toList_eq, ByteArray.toList_eq, str_data, str_data]
  by_cases h : l = m
  · simp [h]
  · simp [h]
theorem same_str (s : ByteArray) (l : List UInt8) : (s.toList == (str l).toList) = decide (s.data.toList = l) := str_same s.data.toList l

end Go.Proofs.YtmbhnhfnimijcaaDoor.Sm
