/-
  The reference's First, Text and Path at a slice of places, and Same at two slices of the same texts. Nothing below is changed. Conditions: at most 50 places, whose names have at most 200 bytes.
-/
import Derived.Test.YtknnalcnoccleaaDoorFaPath
import Derived.Test.YtknnalcnoccleaaDoorFaDigits
import Derived.Test.YtknnalcnoccleaaDoorFaWords
import Derived.BigQuiet
namespace Go.Proofs.YtknnalcnoccleaaDoor.Fa
open Go.RowKit Go.Deep
open Pk Sm

theorem rev_take {l : List Pl} {k : Nat} {q : Pl} (h : l[k]? = some q) : (l.take (k + 1)).reverse = q :: (l.take k).reverse := by
  rw [take_snoc l k q h]
  simp

set_option maxHeartbeats 1000000 in
theorem RFirst_any (A : Option Addr) (n c : Nat) (l : List Pl) (op : ByteArray) (w : World) (hl : l.length = n) (hn : n ≤ 50) (hp : Pls w w.heap.size A l) :
    Calls Tryd.prog 16 #[.slice A n c, .string op] w fun r w' => r = .returned (.tuple #[.int .i64 (fnd l.reverse op).1, .bool (fnd l.reverse op).2]) ∧ w' = w := by
  obtain ⟨G, hG⟩ : ∃ G, G = fnd l.reverse op := ⟨_, rfl⟩
  have HG := hide hG
  rw [← hG]
  have Hl := hide hl
  have Hp := hide hp
  clear hl hp hG
  go_enter Tryd.func16, Tryd.ntmps16
  go_wp2_with fail
  go_loop [6] (fun j => ∃ (k : Nat) (x : Int), k ≤ n ∧ x = (k : Int) - 1 ∧ j = .int .i64 x ∧ Hid (G = fnd (l.take k).reverse op)) (fun j => (intOf j + 1).toNat)
  case atStart => exact ⟨n, _, Nat.le_refl _, rfl, rfl, by rw [List.take_of_length_le (by rw [Hl.out]; exact Nat.le_refl _)]; exact HG.out⟩
  case round =>
    obtain ⟨k, x, hk, hx, rfl, hg⟩ := hrel
    cases k with
    | zero =>
      have hx0 : x < 0 := by omega
      have HGG := hide hg.out
      clear hg hx
      go_wp2
      go_ret2
      exact ⟨by rw [HGG.out]; rfl, rfl⟩
    | succ k =>
      obtain rfl : x = (k : Int) := by omega
      obtain ⟨q, hqk⟩ : ∃ q, l[k]? = some q := ⟨_, List.getElem?_eq_getElem (by rw [Hl.out]; omega)⟩
      obtain ⟨b, o, rfl, hc0, hc1⟩ := Hp.out.at_ hqk
      have hg' := hg.out
      rw [rev_take hqk] at hg'
      have Hg := hide hg'
      clear hqk hg hg' hx
      cases hb' : (q.1.toList == op.toList) with
      | true =>
        have HGG := hide (Hg.out.trans (fnd_yes hb'))
        go_wp2
        go_ret2
        exact ⟨by rw [HGG.out]; rfl, rfl⟩
      | false =>
        have HGG := hide (Hg.out.trans (fnd_no hb'))
        go_wp2
        go_round
        case rel => exact ⟨k, _, by omega, rfl, by go_num, HGG.out⟩
        case measure => simp [intOf]

set_option maxHeartbeats 1000000 in
theorem Same_yes (A B : Option Addr) (n c d : Nat) (ss : List ByteArray) (w : World) (hl : ss.length = n) (hn : n ≤ 1000) (ha : Vec w w.heap.size A (ss.map .string)) (hb : Vec w w.heap.size B (ss.map .string)) :
    Calls Tryd.prog 18 #[.slice A n c, .slice B n d] w fun r w' => r = .returned (.bool true) ∧ Below w.heap.size w w' := by
  have Hl := hide hl
  have Ha := hide ha
  have Hb := hide hb
  clear hl ha hb
  go_enter Tryd.func18, Tryd.ntmps18
  go_wp2_with fail
  go_loopw [13] (fun j wr => ∃ k : Nat, k ≤ n ∧ j = .int .i64 k ∧ Hid (Below w.heap.size w wr)) (fun j _ => n - (intOf j).toNat)
  case atStart => exact ⟨0, Nat.zero_le _, rfl, Below.refl _ _⟩
  case round =>
    obtain ⟨k, hk, rfl, hbel⟩ := hrel
    rcases Nat.lt_or_ge k n with hlt | hge
    · obtain ⟨s, hs⟩ : ∃ s, ss[k]? = some s := ⟨_, List.getElem?_eq_getElem (by rw [Hl.out]; exact hlt)⟩
      have hv : (ss.map Value.string)[k]? = some (.string s) := by simp [hs]
      have hne : ss.map Value.string ≠ [] := by intro h0; rw [h0] at hv; simp at hv
      obtain ⟨b1, o1, rfl, hb1, hc1⟩ := Ha.out hne
      obtain ⟨b2, o2, rfl, hb2, hc2⟩ := Hb.out hne
      have h1 := (hbel.out.cell (p := ⟨b1, o1 + k, none⟩) hb1).trans (hc1 k _ hv)
      have h2 := (hbel.out.cell (p := ⟨b2, o2 + k, none⟩) hb2).trans (hc2 k _ hv)
      have HB := hide fun (m : Nat) => (show Below w.heap.size w (wr.drewN m) from ⟨hbel.out.os, hbel.out.tape, hbel.out.output, hbel.out.size, hbel.out.block⟩)
      clear hs hv hne hc1 hc2 hb1 hb2 hbel
      go_wp2_with fail
      go_quiet (fail)
      go_wp2
      go_roundw
      case rel => exact ⟨k + 1, by omega, by go_num, HB.out _⟩
      case measure => simp [intOf]; omega
    · obtain rfl : k = n := by omega
      go_wp2
      go_ret
      exact ⟨rfl, hbel.out⟩

end Go.Proofs.YtknnalcnoccleaaDoor.Fa
