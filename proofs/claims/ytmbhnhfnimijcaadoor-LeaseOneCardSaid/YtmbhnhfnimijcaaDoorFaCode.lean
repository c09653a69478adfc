/-
  fault.Code, fault.Wrap, api.Errno's Error and the reference's Word; strconv.Itoa as digits; a fault's place. Each tells what is returned; nothing below is changed. Conditions: those of fault.unwrapped; where a number is not one of 0 to 99, the library's table of powers of ten holds its own numbers.
-/
import Derived.Test.YtmbhnhfnimijcaaDoorFaChain
import Derived.Test.YtmbhnhfnimijcaaDoorFaBld
import Derived.Lib.ItoaLen
import Derived.Lib.AppendIntMem
import Derived.Deep.RegionWith
namespace Go.Proofs.YtmbhnhfnimijcaaDoor.Fa
open Go.RowKit
open Pk Sm

/-- The number of what lies innermost. -/
def Cod (i : Value) (k : Int) : Prop := (i = .nilIface ∧ k = 0) ∨ i = .iface 59 (.int .i64 k)
theorem Cod.inner {i : Value} {k : Int} (h : Cod i k) : Inner i := by
  rcases h with ⟨h, _⟩ | h
  · exact Or.inl h
  · exact Or.inr ⟨k, h⟩

theorem asNumber_inner (i : Value) (k : Int) (hi : Cod i k) (w : World) (hty : Ety w) :
    Calls Tryd.prog 31 #[i] w fun r w' => r = .returned (.int .i64 k) ∧ Below w.heap.size w w' := by
  rcases hi with ⟨rfl, rfl⟩ | rfl
  · exact asNumber_nil w
  · exact asNumber_hit k w hty

set_option maxHeartbeats 1000000 in
theorem Code_any (fs : List Flt) (e i : Value) (k : Int) (w : World) (hty : Ety w) (hch : Chain w fs e i) (hi : Cod i k) (hlen : fs.length ≤ 60000) :
    Calls Tryd.prog 22 #[e] w fun r w' => r = .returned (.int .i64 k) ∧ Below w.heap.size w w' := by
  have HU := hide (unwrapped_any fs e i _ w rfl hty hch hi.inner hlen)
  have Hi := hide hi
  have Hty := hide hty
  clear hch hi hlen hty
  go_enter Tryd.func22, Tryd.ntmps22
  go_wp2_with fail
  refine HU.out.mono ?_
  rintro r w1 ⟨A, c, rfl, _, _, _, hb1⟩
  have HA := hide (asNumber_inner i k Hi.out w1 (Hty.out.below hb1 Hty.out.lt))
  have HB := hide hb1
  clear HU hb1
  go_wp2_with fail
  refine HA.out.mono ?_
  rintro r w2 ⟨rfl, hb2⟩
  have HB2 := hide (HB.out.trans (hb2.mono HB.out.size))
  clear hb2
  go_wp2
  go_ret
  exact ⟨rfl, HB2.out⟩

/-! ### Digits -/
def Tab10 (w : World) : Prop := Lib.TabIs Tryd.prog w "internal/strconv.uint64pow10" .u64 Lib.pow10Tab
theorem Tab10.below {w w' : World} (h : Tab10 w) (hb : Below w.heap.size w w') : Tab10 w' := Lib.tabBelow_of_tabIs h w' hb
def Int64 (n : Int) : Prop := -9223372036854775808 ≤ n ∧ n ≤ 9223372036854775807
/-- Either the table is there, or the number is small. -/
def Dig (w : World) (n : Int) : Prop := (0 ≤ n ∧ n < 100) ∨ (Tab10 w ∧ Int64 n)
theorem Dig.below {w w' : World} {n : Int} (h : Dig w n) (hb : Below w.heap.size w w') : Dig w' n := h.imp id fun ⟨h1, h2⟩ => ⟨h1.below hb, h2⟩

theorem grow_below (w : World) (k : Nat) (os : Array Obj) : Below w.heap.size w (Go.Sort.grow (w.drewN k) os) := by
  refine ⟨rfl, rfl, rfl, ?_, fun j hj => ?_⟩
  · simp [Go.Sort.grow, World.drewN]
  · simp [Go.Sort.grow, World.drewN, Array.getElem?_append_left hj]

/-- A place as a text. -/
def plc (op : ByteArray) (n : Int) : List UInt8 := op.data.toList ++ [32] ++ Lib.itoa n
theorem str_append (l m : List UInt8) : str l ++ str m = str (l ++ m) := by
  apply ByteArray.ext
  apply Array.ext'
  simp [str]
theorem plc_eq (op : ByteArray) (n : Int) : op ++ str [32] ++ str (Lib.itoa n) = str (plc op n) := by
  have : op = str op.data.toList := (str_of op).symm
  rw [this, str_append, str_append]
  rfl

end Go.Proofs.YtmbhnhfnimijcaaDoor.Fa
