/-
  The contract of sum.Of: for every slice of bytes it returns the checksum of its bytes, where the table of half bytes holds what its own initialiser lays; nothing is changed.
-/
import Derived.Test.YtnmpckhlpkmojaaGreatDoorPkMem
import Derived.Test.YtnmpckhlpkmojaaGreatDoorSmMath
namespace Go.Proofs.YtnmpckhlpkmojaaGreatDoor.Sm
open Go.RowKit
open Pk

/-- The table's cells. -/
def Tab (w : World) : Prop := ∀ j, j < 16 → w.cell? ⟨1, j, none⟩ = some (.int .u32 ((halves.getD j 0 : Nat) : Int))
theorem Tab.pos {w : World} (h : Tab w) : 1 < w.heap.size := World.block_lt_of_cell? w ⟨1, 0, none⟩ (h 0 (by omega))
theorem Tab.below {w w' : World} {B : Nat} (h : Tab w) (hb : Below B w w') (hB : 1 < B) : Tab w' := fun j hj => (hb.cell (p := ⟨1, j, none⟩) hB).trans (h j hj)

theorem drop_at (l : List UInt8) (k : Nat) (x : UInt8) (h : l[k]? = some x) : l.drop k = x :: l.drop (k + 1) := by
  obtain ⟨hk, e⟩ := List.getElem?_eq_some_iff.1 h
  rw [List.drop_eq_getElem_cons hk, e]

theorem mask15 (m : Nat) (h : m < 4294967296) : bits .and .u32 (m : Int) 15 = ((m % 16 : Nat) : Int) := by
  have := u32_and_nat m 15 h (by omega)
  rw [nat_mask4] at this
  exact this
theorem halves_lt (j : Nat) : halves.getD j 0 < 4294967296 := by
  rcases Nat.lt_or_ge j 16 with h | h
  · have : ∀ i : Fin 16, halves.getD i.val 0 < 4294967296 := by decide
    exact this ⟨j, h⟩
  · rw [List.getD_eq_getElem?_getD, List.getElem?_eq_none (by simpa [halves] using h)]
    decide
/-- What one look into the table comes to: the index, the cell, the next number. -/
theorem look (w : World) (ht : Tab w) (m : Nat) (h : m < 4294967296) : ∃ a t n : Nat, a < 16 ∧ n < 4294967296 ∧ Hid (n = steps 4 m) ∧ bits .and .u32 (m : Int) 15 = (a : Int) ∧
    w.cell? ⟨1, a, none⟩ = some (.int .u32 (t : Int)) ∧ bits .xor .u32 ((m : Int) / 16) (t : Int) = (n : Int) := by
  refine ⟨m % 16, halves.getD (m % 16) 0, steps 4 m, by omega, steps_lt 4 _ h, rfl, mask15 m h, ht _ (by omega), ?_⟩
  rw [← half, show (m : Int) / 16 = ((m / 16 : Nat) : Int) by omega]
  exact u32_xor_nat _ _ (by omega) (halves_lt _)

set_option maxHeartbeats 1000000 in
theorem Of_some (b o c : Nat) (l : List UInt8) (w : World) (hl : l.length ≤ 9223372036854775807) (ht : Tab w)
    (hc : ∀ j u, l[j]? = some u → w.cell? ⟨b, o + j, none⟩ = some (cel u)) (r : Nat) (hr : Hid (crc l = r)) :
    Calls Tryz.prog 90 #[.slice (some ⟨b, o, none⟩) l.length c] w fun e w' =>
      e = .returned (.int .u32 r) ∧ w = w' := by
  generalize hlen : l.length = len at *
  have Hlen := hide hlen
  clear hlen
  go_enter Tryz.func90, Tryz.ntmps90
  go_wp2
  go_loop [3, 8] (fun s i => ∃ (k d : Nat), k ≤ len ∧ i = .int .i64 k ∧ s = .int .u32 d ∧ d < 4294967296 ∧ Hid (crcF d (l.drop k) ^^^ ones = r)) (fun _ i => len - (intOf i).toNat)
  case atStart => exact ⟨0, 4294967295, by omega, rfl, rfl, by omega, hr⟩
  case round =>
    clear hr
    obtain ⟨k, d, hk, rfl, rfl, hd, hres⟩ := hrel
    by_cases hlt : k < len
    · obtain ⟨x, hx⟩ : ∃ x : UInt8, l[k]? = some x := ⟨l[k]'(by rw [Hlen.out]; exact hlt), List.getElem?_eq_getElem _⟩
      obtain ⟨z, hz⟩ : ∃ z : Nat, z = x.toNat := ⟨_, rfl⟩
      have hcell : w.cell? ⟨b, o + k, none⟩ = some (.int .u8 (z : Int)) := by rw [hc k x hx, cel, hz]
      have hz1 : z < 256 := by rw [hz]; exact x.toNat_lt
      have hnext : Hid (crcF (upd d x) (l.drop (k + 1)) ^^^ ones = r) := by
        have e := hres.out
        rw [drop_at l k x hx] at e
        exact e
      have hud : Hid (upd d x = steps 4 (steps 4 (d ^^^ z))) := by rw [hz]; exact steps_add 4 4 _
      have b1 := xor_lt d z hd (by omega)
      have e1 := u32_xor_nat d z hd (by omega)
      clear hres hx hz hc
      generalize d ^^^ z = m1 at *
      obtain ⟨a1, t1, m2, ha1, b2, H2, f1, f2, f3⟩ := look w ht m1 b1
      obtain ⟨a2, t2, m3, ha2, b3, H3, f4, f5, f6⟩ := look w ht m2 b2
      have hfin : Hid (crcF m3 (l.drop (k + 1)) ^^^ ones = r) := by
        have e := hnext.out
        rw [hud.out, ← H2.out, ← H3.out] at e
        exact e
      clear hnext hud H2 H3
      go_wp2
      go_round
      case rel => exact ⟨k + 1, m3, by omega, by go_num, rfl, b3, hfin⟩
      case measure => simp [intOf]; omega
    · have e1 : bits .xor .u32 (d : Int) 4294967295 = (r : Int) := by
        have e := hres.out
        rw [List.drop_eq_nil_of_le (by rw [Hlen.out]; omega)] at e
        rw [← e]
        exact u32_xor_nat d 4294967295 hd (by omega)
      clear hres hc
      go_wp2
      go_ret
      exact ⟨rfl, rfl⟩

set_option maxHeartbeats 400000 in
theorem Of_none (A : Option Addr) (c : Nat) (w : World) :
    Calls Tryz.prog 90 #[.slice A 0 c] w fun e w' => e = .returned (.int .u32 0) ∧ w = w' := by
  have e1 : bits .xor .u32 4294967295 4294967295 = 0 := by decide
  go_enter Tryz.func90, Tryz.ntmps90
  go_wp2
  refine wp_loop_rounds 1 ?_
  rw [rounds_succ]
  go_wp2
  go_ret
  exact ⟨rfl, rfl⟩

theorem Of_any (A : Option Addr) (n c B : Nat) (l : List UInt8) (w : World) (hn : l.length = n) (hl : n ≤ maxLen) (ht : Tab w) (hb : Byt w B A l) :
    Calls Tryz.prog 90 #[.slice A n c] w fun e w' => e = .returned (.int .u32 ((crc l : Nat) : Int)) ∧ w = w' := by
  subst hn
  unfold maxLen at hl
  cases l with
  | nil => exact Of_none A c w
  | cons x r =>
    obtain ⟨b, o, rfl, _, hc⟩ := hb (by simp)
    exact Of_some b o c (x :: r) w (by omega) ht hc _ rfl

end Go.Proofs.YtnmpckhlpkmojaaGreatDoor.Sm
