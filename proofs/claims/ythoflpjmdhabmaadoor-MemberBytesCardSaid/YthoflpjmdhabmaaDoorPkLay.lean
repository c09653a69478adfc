/-
  The contracts of pack.Number and pack.Text: the result is the bytes that were told, followed by the encoding; it lies in memory of its own, and nothing that was there is changed.
-/
import Derived.Test.YthoflpjmdhabmaaDoorPkPut
namespace Go.Proofs.YthoflpjmdhabmaaDoor.Pk
open Go.RowKit

theorem grown_int (A : Option Addr) (l : List UInt8) (c : Nat) (room : Int) (w : World) (hb : Byt w w.heap.size A l) (h0 : 0 ≤ room) (hl : l.length + room ≤ 70368744177664) :
    Calls Tryd.prog 52 #[.slice A l.length c, .int .i64 room] w fun e w' =>
      ∃ v', e = .returned v' ∧ Own w' w.heap.size v' l ∧ Below w.heap.size w w' := by
  obtain ⟨r, rfl⟩ := Int.eq_ofNat_of_zero_le h0
  exact grown_any A l c r w hb (by omega)

set_option maxHeartbeats 400000 in
theorem Number_any (A : Option Addr) (l : List UInt8) (c : Nat) (n : Int) (w : World) (hb : Byt w w.heap.size A l) (hl : l.length ≤ 35184372088832) :
    Calls Tryd.prog 38 #[.slice A l.length c, .int .i64 n] w fun e w' =>
      ∃ v', e = .returned v' ∧ Own w' w.heap.size v' (l ++ enc (clamp n)) ∧ Below w.heap.size w w' := by
  go_enter Tryd.func38, Tryd.ntmps38
  go_wp2_with fail
  refine (grown_int A l c 9 w hb (by omega) (by omega)).mono ?_
  rintro e w1 ⟨v1, rfl, ho1, hb1⟩
  go_wp2_with fail
  refine (put_any w.heap.size v1 l n w1 ho1 (by omega) hb1.size).mono ?_
  rintro e w2 ⟨v2, rfl, ho2, hb2⟩
  go_wp2
  go_ret
  exact ⟨_, rfl, ho2, hb1.trans hb2⟩

theorem clamp_size (n : Nat) (h : n ≤ 1152921504606846975) : clamp (n : Int) = n := by unfold clamp; omega

theorem own_text {w : World} {base : Nat} {v : Value} {l : List UInt8} {s : ByteArray} {n : Nat} (hn : l.length = n) (h : w.ownsRow base 5 1 v (n + s.size) (cels l ++ Lib.strCells s)) : Own w base v (l ++ s.data.toList) := by
  subst hn
  unfold Own
  rw [cels_append, List.length_append, Array.length_toList]
  exact h

end Go.Proofs.YthoflpjmdhabmaaDoor.Pk
