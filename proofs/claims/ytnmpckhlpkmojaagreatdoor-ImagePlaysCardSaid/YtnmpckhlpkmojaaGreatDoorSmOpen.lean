/-
  The contracts of bytes.Equal and sum.Open: what is told of two slices of bytes; what is opened, and what isn't; nothing that was there is changed.
-/
import Derived.Test.YtnmpckhlpkmojaaGreatDoorSmStr
import Derived.Test.YtnmpckhlpkmojaaGreatDoorSmSeal
namespace Go.Proofs.YtnmpckhlpkmojaaGreatDoor.Sm
open Go.RowKit
open Pk

set_option maxHeartbeats 400000 in
theorem Equal_any (A A' : Option Addr) (n c n' c' B B' : Nat) (l l' : List UInt8) (w : World) (hn : l.length = n) (hn' : l'.length = n') (hb : Byt w B A l) (hb' : Byt w B' A' l') (v : Bool) (hv : ((str l).toList == (str l').toList) = v) :
    Calls Tryz.prog 69 #[.slice A n c, .slice A' n' c'] w fun e w' => e = .returned (.bool v) ∧ w = w' := by
  have e1 := run_str w B A l n c hn hb
  have e2 := run_str w B' A' l' n' c' hn' hb'
  clear hn hn' hb hb'
  go_enter Tryz.func69, Tryz.ntmps69
  go_wp2
  go_ret
  exact ⟨rfl, rfl⟩


set_option maxHeartbeats 400000 in
theorem Open_short (A : Option Addr) (n c : Nat) (w : World) (hn : n < 4) :
    Calls Tryz.prog 66 #[.slice A n c] w fun e w' => e = .returned (.tuple #[.slice none 0 0, .bool false]) ∧ w = w' := by
  go_enter Tryz.func66, Tryz.ntmps66
  go_wp2
  go_ret2
  exact ⟨rfl, rfl⟩

/-- Seal, told by the slice that it returns. -/
theorem Seal_told (A : Option Addr) (l : List UInt8) (n c : Nat) (w : World) (hn : l.length = n) (hb : Byt w w.heap.size A l) (ht : Tab w) (hl : n ≤ 1000000) :
    Calls Tryz.prog 79 #[.slice A n c] w fun e w' =>
      ∃ b o c', e = .returned (.slice (some ⟨b, o, none⟩) (n + 4) c') ∧ n + 4 ≤ c' ∧ c' ≤ 9223372036854775807 ∧ Own w' w.heap.size (.slice (some ⟨b, o, none⟩) (n + 4) c') (seal4 l) ∧ Byt w' w'.heap.size (some ⟨b, o, none⟩) (seal4 l) ∧ Below w.heap.size w w' := by
  refine (Seal_any A l n c w hn hb ht (by omega)).mono ?_
  rintro e w' ⟨v, rfl, hown, hbel⟩
  obtain ⟨A', c', rfl, h1, h2, h3⟩ := hown.form
  have hlen := seal4_length l
  obtain ⟨b, o, rfl, _, _⟩ := h3 (by intro h; rw [h] at hlen; simp at hlen)
  rw [hlen, hn] at h1 hown
  rw [hlen, hn]
  exact ⟨b, o, c', rfl, h1, h2, hown, h3, hbel⟩

theorem seal4_take_length (l : List UInt8) (k : Nat) (hn : l.length = k + 4) : (seal4 (l.take k)).length = k + 4 := by
  rw [seal4_length, List.length_take]
  omega

set_option maxHeartbeats 1000000 in
theorem Open_no (b o k c : Nat) (l : List UInt8) (w : World) (hn : l.length = k + 4) (hc : k + 4 ≤ c) (hl : k ≤ 1000000) (hb : Byt w w.heap.size (some ⟨b, o, none⟩) l) (ht : Tab w) (hno : seal4 (l.take k) ≠ l) :
    Calls Tryz.prog 66 #[.slice (some ⟨b, o, none⟩) (k + 4) c] w fun e w' => e = .returned (.tuple #[.slice none 0 0, .bool false]) ∧ Below w.heap.size w w' := by
  have HS := hide (Seal_told (some ⟨b, o, none⟩) (l.take k) k c w (by rw [List.length_take]; omega) (hb.take k) ht (by omega))
  have Hno := hide hno
  have Hn := hide hn
  clear hno hn
  go_enter Tryz.func66, Tryz.ntmps66
  go_wp2_with fail
  refine HS.out.mono ?_
  rintro r w1 ⟨b1, o1, c1, rfl, hc1, hcm1, _, hby1, hbel⟩
  have HE := hide (Equal_any _ _ (k + 4) c1 (k + 4) c _ _ _ l w1 (seal4_take_length l k Hn.out) Hn.out hby1 (hb.below hbel) false (by rw [str_same]; exact decide_eq_false Hno.out))
  clear HS hby1
  go_wp2_with fail
  refine HE.out.mono ?_
  rintro r w' ⟨rfl, rfl⟩
  go_wp2
  go_ret2
  exact ⟨rfl, hbel⟩

set_option maxHeartbeats 1000000 in
theorem Open_yes (b o k c : Nat) (l : List UInt8) (w : World) (hn : l.length = k + 4) (hc : k + 4 ≤ c) (hl : k ≤ 1000000) (hb : Byt w w.heap.size (some ⟨b, o, none⟩) l) (ht : Tab w) (hyes : seal4 (l.take k) = l) :
    Calls Tryz.prog 66 #[.slice (some ⟨b, o, none⟩) (k + 4) c] w fun e w' => ∃ b1 o1, e = .returned (.tuple #[.slice (some ⟨b1, o1, none⟩) k k, .bool true]) ∧ Byt w' w'.heap.size (some ⟨b1, o1, none⟩) (l.take k) ∧ Below w.heap.size w w' := by
  have HS := hide (Seal_told (some ⟨b, o, none⟩) (l.take k) k c w (by rw [List.length_take]; omega) (hb.take k) ht (by omega))
  have Hyes := hide hyes
  have Hn := hide hn
  clear hyes hn
  go_enter Tryz.func66, Tryz.ntmps66
  go_wp2_with fail
  refine HS.out.mono ?_
  rintro r w1 ⟨b1, o1, c1, rfl, hc1, hcm1, _, hby1, hbel⟩
  have HE := hide (Equal_any _ _ (k + 4) c1 (k + 4) c _ _ _ l w1 (seal4_take_length l k Hn.out) Hn.out hby1 (hb.below hbel) true (by rw [str_same]; exact decide_eq_true Hyes.out))
  have R := hby1
  rw [Hyes.out] at R
  have HR := hide (R.take k)
  clear HS hby1 R
  go_wp2_with fail
  refine HE.out.mono ?_
  rintro r w' ⟨rfl, rfl⟩
  go_wp2
  go_ret2
  exact ⟨b1, o1, rfl, HR.out, hbel⟩

/-- What is no sealed text is never opened. -/
theorem Open_bad (A : Option Addr) (n c : Nat) (l : List UInt8) (w : World) (hn : l.length = n) (hc : n ≤ c) (hl : n ≤ 1000000) (hb : Byt w w.heap.size A l) (ht : Tab w) (hno : ∀ m, l ≠ seal4 m) :
    Calls Tryz.prog 66 #[.slice A n c] w fun e w' => e = .returned (.tuple #[.slice none 0 0, .bool false]) ∧ Below w.heap.size w w' := by
  rcases Nat.lt_or_ge n 4 with h | h
  · refine (Open_short A n c w h).mono ?_
    rintro e w' ⟨rfl, rfl⟩
    exact ⟨rfl, Below.refl _ _⟩
  · obtain ⟨k, rfl⟩ : ∃ k, n = k + 4 := ⟨n - 4, by omega⟩
    obtain ⟨b, o, rfl, _, _⟩ := hb (by rintro rfl; simp at hn)
    exact Open_no b o k c l w hn hc (by omega) hb ht (fun e => hno _ e.symm)
/-- What is sealed is opened as it was. -/
theorem Open_good (A : Option Addr) (n c k : Nat) (m : List UInt8) (w : World) (hk : m.length = k) (hn : n = k + 4) (hc : n ≤ c) (hl : n ≤ 1000000) (hb : Byt w w.heap.size A (seal4 m)) (ht : Tab w) :
    Calls Tryz.prog 66 #[.slice A n c] w fun e w' => ∃ b1 o1, e = .returned (.tuple #[.slice (some ⟨b1, o1, none⟩) k k, .bool true]) ∧ Byt w' w'.heap.size (some ⟨b1, o1, none⟩) m ∧ Below w.heap.size w w' := by
  subst hn
  subst hk
  have hlen := seal4_length m
  obtain ⟨b, o, rfl, _, _⟩ := hb (by intro h; rw [h] at hlen; simp at hlen)
  have := Open_yes b o m.length c (seal4 m) w hlen hc (by omega) hb ht (by rw [seal4_take])
  rw [seal4_take] at this
  exact this

end Go.Proofs.YtnmpckhlpkmojaaGreatDoor.Sm
