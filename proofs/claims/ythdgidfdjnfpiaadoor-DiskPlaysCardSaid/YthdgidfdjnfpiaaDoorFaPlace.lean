/-
  A fault's place, as text: its name, a space, its digits. Nothing below is changed. Conditions: the fault is there; the name has at most 200 bytes; the number's digits can be told.
-/
import Derived.Test.YthdgidfdjnfpiaaDoorFaCode
namespace Go.Proofs.YthdgidfdjnfpiaaDoor.Fa
open Go.RowKit
open Pk Sm

theorem drew_below {w w1 : World} (h : Below w.drew.heap.size w.drew w1) : Below w.heap.size w w1 := ⟨h.os, h.tape, h.output, h.size, h.block⟩
/-- Two strings, one behind the other. -/
theorem run_add (l m : List UInt8) (h : l.length + m.length ≤ 1000000) (W : World) : (Op.stringOp .add (str l) (str m)).run Tryd.prog W = .ok (.string (str (l ++ m))) W := by
  rw [← str_append]
  exact run_string_add_sum (P := Tryd.prog) (w := W) _ _ (by rw [str_size, str_size]; omega)

theorem Dig.int {w : World} {n : Int} (h : Dig w n) : Int64 n := by
  rcases h with ⟨h0, h1⟩ | ⟨_, h⟩
  · exact ⟨by omega, by omega⟩
  · exact h
theorem itoa_le {w : World} {n : Int} (h : Dig w n) : (Lib.itoa n).length ≤ 21 := Lib.itoa_length_le n h.int.1 h.int.2
theorem plc_le {w : World} {op : ByteArray} {n : Int} (h : Dig w n) (hs : op.size ≤ 200) : (plc op n).length ≤ 222 := by
  have := itoa_le h
  unfold plc
  rw [List.length_append, List.length_append, size_eq]
  simp
  omega

set_option maxHeartbeats 1000000 in
theorem place_any (p : Nat) (op : ByteArray) (n : Int) (e : Value) (w : World) (hp : w.heap[p]? = some (.cells #[.string op, .int .i64 n, e] 79 (0, 0))) (hd : Dig w n) (hs : op.size ≤ 200) :
    Calls Tryd.prog 33 #[.pointer (some ⟨p, 0, none⟩)] w fun r w' => r = .returned (.string (str (plc op n))) ∧ Below w.heap.size w w' := by
  have hc0 : w.cell? ⟨p, 0, none⟩ = some (.string op) := by simp [World.cell?, hp]
  have hc1 : w.cell? ⟨p, 1, none⟩ = some (.int .i64 n) := by simp [World.cell?, hp]
  have hlt := heap_lt hp
  have hi := itoa_le hd
  have hI := Itoa_any n w.drew (show Dig w.drew n from hd)
  obtain ⟨S1, h1⟩ : ∃ S, S = str (op.data.toList ++ [32]) := ⟨_, rfl⟩
  obtain ⟨SA, h2⟩ : ∃ S, S = str (Lib.itoa n) := ⟨_, rfl⟩
  obtain ⟨SP, h3⟩ : ∃ S, S = str (plc op n) := ⟨_, rfl⟩
  have hadd1 : ∀ W : World, (Op.stringOp .add op ⟨#[32]⟩).run Tryd.prog W = .ok (.string S1) W := fun W => by
    rw [h1]
    exact run_add op.data.toList [32] (by rw [size_eq]; simp; omega) W
  have hadd2 : ∀ W : World, (Op.stringOp .add S1 SA).run Tryd.prog W = .ok (.string SP) W := fun W => by
    rw [h1, h2, h3]
    exact run_add _ _ (by rw [List.length_append, size_eq]; simp; omega) W
  rw [← h2] at hI
  rw [← h3]
  have HI := hide hI
  have Hlt := hide hlt
  clear hp hd hlt hi hI h1 h2 h3
  go_enter Tryd.func33, Tryd.ntmps33
  go_wp2_with fail
  go_region_with (go_at_call 39; refine HI.out.mono ?_; rintro r w1 ⟨rfl, hb1⟩; have hc2 : w1.cell? ⟨p, 0, none⟩ = some (.string op) := (hb1.cell (p := ⟨p, 0, none⟩) Hlt.out).trans hc0; have HB := hide hb1; clear hb1)
  all_goals
    go_wp2
    go_ret
    exact ⟨rfl, drew_below HB.out⟩

end Go.Proofs.YthdgidfdjnfpiaaDoor.Fa
