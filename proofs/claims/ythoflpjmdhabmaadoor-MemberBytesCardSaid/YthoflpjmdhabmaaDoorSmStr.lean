/-
  Strings and slices of bytes: a list as a string; what string(b) gives. Plain theorems, for every world.
-/
import Derived.Lib.ConvBytes
import Derived.Lib.SlBytesConst
import Derived.Test.YthoflpjmdhabmaaDoorPkMem
namespace Go.Proofs.YthoflpjmdhabmaaDoor.Sm
open Go.RowKit
open Pk

/-- A list's bytes as a string. -/
def str (l : List UInt8) : ByteArray := ⟨l.toArray⟩
theorem str_data (l : List UInt8) : (str l).data.toList = l := rfl
theorem str_size (l : List UInt8) : (str l).size = l.length := by simp [str, ByteArray.size]
theorem str_of (s : ByteArray) : str s.data.toList = s := rfl
theorem str_inj {l m : List UInt8} : str l = str m ↔ l = m := by
  constructor
  · intro h
    have := congrArg (fun s : ByteArray => s.data.toList) h
    exact this
  · rintro rfl; rfl
theorem size_eq (s : ByteArray) : s.data.toList.length = s.size := Array.length_toList

theorem nums_str (l : List UInt8) : strOfNums (l.map fun b => (b.toNat : Int)) = str l := by
  unfold strOfNums str
  congr 2
  rw [List.map_map]
  conv => rhs; rw [← List.map_id l]
  apply List.map_congr_left
  intro b _
  simp

/-- Strings held one against the other. -/
theorem str_same (l m : List UInt8) : ((str l).toList == (str m).toList) = decide (l = m) := by
  rw [ByteArray.toList_eq, ByteArray.toList_eq, str_data, str_data]
  by_cases h : l = m
  · simp [h]
  · simp [h]
theorem same_str (s : ByteArray) (l : List UInt8) : (s.toList == (str l).toList) = decide (s.data.toList = l) := str_same s.data.toList l

/-- string(b) -/
theorem run_str (w : World) (B : Nat) (A : Option Addr) (l : List UInt8) (n c : Nat) (hn : l.length = n) (hb : Byt w B A l) :
    (convert 42 9 (.slice A n c)).run Tryd.prog w = .ok (.string (str l)) w := by
  subst hn
  cases l with
  | nil =>
    cases A with
    | none => exact run_convert_bytes_nil w 42 5 Tryd.underlying42 Tryd.underlying5 0 c 9 Tryd.underlying9
    | some ad =>
      have h0 : (loadCells ad 0).run Tryd.prog w = .ok (([] : List Int).map (Value.int .u8)).toArray w := run_loadCells_list w ad [] (fun j v hj => by simp at hj)
      rw [List.length_nil, run_convert_bytes_string w _ _ 5 _ 0 c Tryd.underlying42 Tryd.underlying5 Tryd.underlying9, run_bytesToString w ad 0 c [] h0]
      rfl
  | cons x r =>
    obtain ⟨b, o, rfl, _, hc⟩ := hb (by simp)
    rw [← nums_str]
    refine run_convert_bytes_arg w 42 5 Tryd.underlying42 Tryd.underlying5 b o _ c _ (by simp) (fun i hi => ?_) 9 Tryd.underlying9
    rw [hc i _ (List.getElem?_eq_getElem hi)]
    rw [List.getD_eq_getElem?_getD, List.getElem?_map, List.getElem?_eq_getElem hi]
    rfl

/-- []byte(s) -/
theorem to_bytes (w : World) (s : ByteArray) (hs : s.size ≤ maxLen) : ∃ (w' : World) (c : Nat), s.size ≤ c ∧ c ≤ 9223372036854775807 ∧
    (convert 9 42 (.string s)).run Tryd.prog w = .ok (.slice (some ⟨w.heap.size, 0, none⟩) s.size c) w' ∧ Byt w' w'.heap.size (some ⟨w.heap.size, 0, none⟩) s.data.toList ∧ Below w.heap.size w w' := by
  refine ⟨_, _, grownCap_ge _ _ _ _, grownCap_le_maxLen _ _ _ _ hs, Lib.run_convert_string_bytes w 9 42 5 s Tryd.underlying9 Tryd.underlying42 Tryd.underlying5, fun _ => ⟨_, _, rfl, by rw [Lib.bytesWorld_size]; omega, fun j u hu => ?_⟩, ?_⟩
  · have hj : j < s.size := by
      have := (List.getElem?_eq_some_iff.1 hu).1
      rw [size_eq] at this
      exact this
    rw [Nat.zero_add, Lib.bytesWorld_cell w _ s j hj, List.getD_eq_getElem?_getD, hu]
    rfl
  · refine ⟨?_, ?_, ?_, by rw [Lib.bytesWorld_size]; omega, fun k hk => Lib.bytesWorld_at_old w _ s k hk⟩ <;> simp [Lib.bytesWorld, World.freeze, World.alloc, World.drew, -World.alloc_eq, -World.drew_eq]

end Go.Proofs.YthoflpjmdhabmaaDoor.Sm
