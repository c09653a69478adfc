/-
  The contract of sum.Sector: bytes filled up and sealed, a row of the call's own; or nothing, if they are too many. Nothing that was there is changed.
-/
import Derived.Test.YtnmpckhlpkmojaaGreatDoorSmOpen
namespace Go.Proofs.YtnmpckhlpkmojaaGreatDoor.Sm
open Go.RowKit
open Pk

set_option maxHeartbeats 400000 in
theorem Sector_long (A : Option Addr) (n c : Nat) (w : World) (hn : 60 < n) (hm : n ≤ 9223372036854775807) :
    Calls Tryz.prog 77 #[.slice A n c] w fun e w' => e = .returned (.tuple #[.slice none 0 0, .bool false]) ∧ w = w' := by
  go_enter Tryz.func77, Tryz.ntmps77
  go_wp2
  go_ret2
  exact ⟨rfl, rfl⟩

def pad (l : List UInt8) : List UInt8 := l ++ List.replicate (60 - l.length) 0

theorem pad_length (l : List UInt8) (h : l.length ≤ 60) : (pad l).length = 60 := by
  unfold pad
  rw [List.length_append, List.length_replicate]
  omega
def nils (n : Nat) : List Value := List.replicate n (Value.int .u8 0)
theorem nils_length (n : Nat) : (nils n).length = n := List.length_replicate
theorem pad_cels (l : List UInt8) : splice (nils 60) 0 (cels l) = cels (pad l) := by
  unfold pad nils
  generalize 60 = m at *
  rw [cels_append]
  simp [splice, cels, cel]
/-- A row whose cells are known, read as bytes. -/
theorem byt_row {w : World} {g t : Nat} {l : List UInt8} (hg : w.heap[g]? = some (.cells (cels l).toArray t (0, 0))) : Byt w w.heap.size (some ⟨g, 0, none⟩) l := fun _ => by
  refine ⟨g, 0, rfl, (Array.getElem?_eq_some_iff.1 hg).1, fun j u hu => ?_⟩
  have hj : (cels l)[j]? = some (cel u) := by simp [cels, hu]
  simp only [World.cell?, hg, Nat.zero_add]
  simp [hj]

set_option maxHeartbeats 1000000 in
theorem Sector_any (A : Option Addr) (l : List UInt8) (n c : Nat) (w : World) (hn : l.length = n) (hl : n ≤ 60) (hb : Byt w w.heap.size A l) (ht : Tab w) :
    Calls Tryz.prog 77 #[.slice A n c] w fun e w' =>
      ∃ b o c', e = .returned (.tuple #[.slice (some ⟨b, o, none⟩) 64 c', .bool true]) ∧ 64 ≤ c' ∧ c' ≤ 9223372036854775807 ∧ Byt w' w'.heap.size (some ⟨b, o, none⟩) (seal4 (pad l)) ∧ Below w.heap.size w w' := by
  have Hlen := hide hn
  have hpos := ht.pos
  clear hn
  go_enter Tryz.func77, Tryz.ntmps77
  go_wp2_with (with_reducible refine wpList_copy_splice rfl (.tmp 8) (.tmp 9) 60 60 rfl 5 Tryz.underlying60 u8_one (some ⟨w.heap.size, 0, none⟩) A 60 60 n c rfl rfl w.heap.size 0 (nils 60) 158 ?h1 (cels l) ?h2 ?h3 ?h4 (cels_one l) w.heap.size w ?h5 (Nat.le_refl _) ?h6)
  case h1 => exact heap_alloc_new w _
  case h2 => rw [cels_length, Hlen.out]; exact (Nat.min_eq_left hl).symm
  case h3 =>
    intro h0
    rw [cels_length] at h0
    obtain ⟨b, o, rfl, hbb, hc⟩ := hb (by rintro rfl; simp at h0)
    refine ⟨_, rfl, fun j u hu => ?_⟩
    obtain ⟨x, hx, rfl⟩ := cels_get l j u hu
    rw [Addr.add_lit, World.cell?_alloc_past _ _ _ hbb]
    exact hc j x hx
  case h4 => rw [cels_length, Hlen.out, nils_length]; omega
  case h5 => exact (Below.refl _ _).alloc (Nat.le_refl _) _
  case h6 =>
    intro w1 Hg hb1
    have hg := Hg.out
    rw [pad_cels l] at hg
    have HS := hide (Seal_told (some ⟨w.heap.size, 0, none⟩) (pad l) 60 60 w1 (pad_length l (by rw [Hlen.out]; exact hl)) (byt_row hg) (ht.below hb1 hpos) (by omega))
    clear Hg hg hb
    go_wp2_with fail
    refine HS.out.mono ?_
    rintro r w2 ⟨b, o, c', rfl, hc1, hc2, _, hby, hb2⟩
    clear HS
    go_wp2
    go_ret2
    exact ⟨b, o, c', rfl, hc1, hc2, hby, hb1.trans (hb2.mono hb1.size)⟩

end Go.Proofs.YtnmpckhlpkmojaaGreatDoor.Sm
