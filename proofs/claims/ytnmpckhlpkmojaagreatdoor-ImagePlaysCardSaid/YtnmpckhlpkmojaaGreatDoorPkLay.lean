/-
  The contracts of pack.Number and pack.Text: the result is the bytes that were told, followed by the encoding; it lies in memory of its own, and nothing that was there is changed.
-/
import Derived.Test.YtnmpckhlpkmojaaGreatDoorPkPut
namespace Go.Proofs.YtnmpckhlpkmojaaGreatDoor.Pk
open Go.RowKit

theorem grown_int (A : Option Addr) (l : List UInt8) (c : Nat) (room : Int) (w : World) (hb : Byt w w.heap.size A l) (h0 : 0 ≤ room) (hl : l.length + room ≤ 70368744177664) :
    Calls Tryz.prog 89 #[.slice A l.length c, .int .i64 room] w fun e w' =>
      ∃ v', e = .returned v' ∧ Own w' w.heap.size v' l ∧ Below w.heap.size w w' := by
  obtain ⟨r, rfl⟩ := Int.eq_ofNat_of_zero_le h0
  exact grown_any A l c r w hb (by omega)

set_option maxHeartbeats 400000 in
theorem Number_any (A : Option Addr) (l : List UInt8) (c : Nat) (n : Int) (w : World) (hb : Byt w w.heap.size A l) (hl : l.length ≤ 35184372088832) :
    Calls Tryz.prog 76 #[.slice A l.length c, .int .i64 n] w fun e w' =>
      ∃ v', e = .returned v' ∧ Own w' w.heap.size v' (l ++ enc (clamp n)) ∧ Below w.heap.size w w' := by
  go_enter Tryz.func76, Tryz.ntmps76
  go_wp2_with fail
  refine (grown_int A l c 9 w hb (by omega) (by omega)).mono ?_
  rintro e w1 ⟨v1, rfl, ho1, hb1⟩
  go_wp2_with fail
  refine (put_any w.heap.size v1 l n w1 ho1 (by omega) hb1.size).mono ?_
  rintro e w2 ⟨v2, rfl, ho2, hb2⟩
  go_wp2
  go_ret
  exact ⟨_, rfl, ho2, hb1.trans hb2⟩

theorem clamp_size (n : Nat) (h : n ≤ 1152921504606846975) : clamp (n : Int) = n := by unfold clamp; omega

theorem own_text {w : World} {base : Nat} {v : Value} {l : List UInt8} {s : ByteArray} {n : Nat} (hn : l.length = n) (h : w.ownsRow base 5 1 v (n + s.size) (cels l ++ Lib.strCells s)) : Own w base v (l ++ s.data.toList) := by
  subst hn
  unfold Own
  rw [cels_append, List.length_append, Array.length_toList]
  exact h

set_option maxHeartbeats 400000 in
theorem Text_any (A : Option Addr) (l : List UInt8) (c : Nat) (s : ByteArray) (w : World) (hb : Byt w w.heap.size A l) (hl : l.length + s.size ≤ 35184372088832) :
    Calls Tryz.prog 78 #[.slice A l.length c, .string s] w fun e w' =>
      ∃ v', e = .returned v' ∧ Own w' w.heap.size v' (l ++ enc s.size ++ s.data.toList) ∧ Below w.heap.size w w' := by
  obtain ⟨i0, hi, hz0, hz1, hz2⟩ := info_parts u8_info
  have hlen9 := enc_le s.size
  go_enter Tryz.func78, Tryz.ntmps78
  go_wp2_with fail
  refine (grown_int A l c _ w hb (by omega) (by omega)).mono ?_
  rintro e w1 ⟨v1, rfl, ho1, hb1⟩
  go_wp2_with fail
  refine (put_any w.heap.size v1 l s.size w1 ho1 (by omega) hb1.size).mono ?_
  rintro e w2 ⟨v2, rfl, ho2, hb2⟩
  rw [clamp_size _ (by omega)] at ho2
  have hb3 := hb1.trans hb2
  go_wp2_with (at_builtin; refine Lib.wpList_append_own_string _ rfl (.tmp 14) (.tmp 15) 60 9 rfl w.heap.size 5 i0 Tryz.underlying60 Tryz.underlying9 hi hz0 hz1 hz2 _ _ _ rfl ho2 s rfl ?c1 ?c2 ?c3 ?_)
  case c1 => simp only [List.length_append]; unfold maxLen; omega
  case c2 => simp only [List.length_append]; omega
  case c3 => exact hb3.size
  intro v3 w3 ho3 hg3 _
  have R := own_text (l := l ++ enc s.size) (List.length_append ..) ho3
  have R2 : Below w.heap.size w w3 := hb3.grown hg3 hb3.size (fun k hk => (World.ownsRow.lt ho2 k hk).1)
  clear ho3 hg3
  go_wp2
  go_ret
  exact ⟨_, rfl, R, R2⟩

end Go.Proofs.YtnmpckhlpkmojaaGreatDoor.Pk
