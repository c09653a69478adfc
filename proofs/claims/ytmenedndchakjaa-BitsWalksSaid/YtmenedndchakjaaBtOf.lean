/-
  The contracts of bits.Of and of the statements' own of, at every slice of integers. Nothing that was there is changed.
-/
import Derived.Deep.MidRow
import Derived.Test.YtmenedndchakjaaBtOps
import Derived.Test.YtmenedndchakjaaBtRef
namespace Go.Proofs.Ytmenedndchakjaa.Bt
open Go.RowKit
open Pk Sm

/-- The integers xs lie, a cell each, where a slice's address leads, below block B. -/
def Ints (w : World) (B : Nat) (A : Option Addr) (xs : List Int) : Prop :=
  xs ≠ [] → ∃ b o, A = some ⟨b, o, none⟩ ∧ b < B ∧ ∀ j x, xs[j]? = some x → w.cell? ⟨b, o + j, none⟩ = some (.int .i64 x)
theorem Ints.below {w w' : World} {B : Nat} {A : Option Addr} {xs : List Int} (h : Ints w B A xs) (hb : Below B w w') : Ints w' B A xs := fun hn => by
  obtain ⟨b, o, e, hB, hc⟩ := h hn
  exact ⟨b, o, e, hB, fun j x hx => (hb.cell (p := ⟨b, o + j, none⟩) hB).trans (hc j x hx)⟩
theorem Ints.more {w : World} {B B' : Nat} {A : Option Addr} {xs : List Int} (h : Ints w B A xs) (hB : B ≤ B') : Ints w B' A xs := fun hn => by
  obtain ⟨b, o, e, hb, hc⟩ := h hn
  exact ⟨b, o, e, by omega, hc⟩
theorem Ints.at_ {w : World} {B : Nat} {A : Option Addr} {xs : List Int} (h : Ints w B A xs) {k : Nat} {x : Int} (hk : xs[k]? = some x) : ∃ b o, A = some ⟨b, o, none⟩ ∧ w.cell? ⟨b, o + k, none⟩ = some (.int .i64 x) := by
  obtain ⟨b, o, e, _, hc⟩ := h (by rintro rfl; simp at hk)
  exact ⟨b, o, e, hc k x hk⟩

theorem take_more {α : Type} {l : List α} {k : Nat} {x : α} (h : l[k]? = some x) : l.take (k + 1) = l.take k ++ [x] := by
  rw [List.take_add_one, h]
  rfl

set_option maxRecDepth 100000 in
set_option maxHeartbeats 2000000 in
theorem Of_any (A : Option Addr) (xs : List Int) (n c : Nat) (w : World) (hx : xs.length = n) (hA : Ints w w.heap.size A xs) (hn : n ≤ maxLen) :
    Calls Try.prog 10 #[.slice A n c] w fun e w' => e = .returned (val (of xs)) ∧ Below w.heap.size w w' := by
  replace hn : n ≤ 9223372036854775807 := hn
  have HX := hide hx
  have HA := hide hA
  have HW := hide (fun k b W => With_any (of (xs.take k)) (of_length _) b W)
  clear hx hA
  go_enter Try.func10, Try.ntmps10
  go_wp2_with (refine wpList_alloc_told rfl 28 rfl _ set_zero ?_)
  intro w1 H1
  have Z1 := hide (show Lies w1 w.heap.size empty by rw [H1.out]; exact lies_new w empty)
  have B1 := hide (show Below w.heap.size w w1 by rw [H1.out]; exact (Below.refl _ _).alloc (Nat.le_refl _) _)
  have hz1 : w.heap.size < w1.heap.size := Z1.out.lt
  go_wp2_with (refine wpList_alloc_told rfl 28 rfl _ set_zero ?_)
  intro w2 H2
  have Z2 := hide (show Lies w2 w.heap.size empty by rw [H2.out]; exact Z1.out.alloc _)
  have L2 := hide (show Lies w2 w1.heap.size (of (xs.take 0)) by rw [H2.out]; exact lies_new w1 empty)
  have B2 := hide (show Below w.heap.size w w2 by rw [H2.out]; exact B1.out.alloc (by omega) _)
  clear H1 H2 Z1 B1
  go_wp2
  go_loopw [5, 8] (fun _ i wr => ∃ k : Nat, k ≤ n ∧ i = .int .i64 k ∧ (Lies wr w1.heap.size (of (xs.take k)) ∧ Lies wr w.heap.size empty ∧ Below w.heap.size w wr)) (fun _ i _ => n - (intOf i).toNat)
  case atStart => exact ⟨0, Nat.zero_le _, rfl, L2.out, Z2.out, B2.out⟩
  case round =>
    obtain ⟨k, hk, rfl, hL, hZ, hB⟩ := hrel
    have HL := hide hL
    have HZ := hide hZ
    have HB := hide hB
    have Hl : Hid ((bcels (of (xs.take k))).length = 8) := by rw [bcels_length]; exact of_length _
    have HR := hide hL.range
    have hlt1 := hL.lt
    clear hL hZ hB
    by_cases hlt : k < n
    · obtain ⟨x, hx⟩ : ∃ x, xs[k]? = some x := ⟨_, List.getElem?_eq_getElem (by rw [HX.out]; exact hlt)⟩
      obtain ⟨b, o, rfl, hc⟩ := (HA.out.below HB.out).at_ hx
      have HT : Hid (of (xs.take (k + 1)) = put (of (xs.take k)) x true) := hide (by rw [take_more hx, of_snoc])
      have Hl2 : Hid ((bcels (put (of (xs.take k)) x true)).length = 8) := by rw [bcels_length, put_length]; exact of_length _
      clear hx
      go_wp2_with (first | with_reducible refine wpList_load_mid rfl 28 (.tmp 3) rfl w1.heap.size 0 rfl (bcels (of (xs.take k))) _ HR.out Try.underlying28 rfl (by rw [set_size, Hl.out]) ?_)
      refine (HW.out k x wr).mono ?_
      rintro e w3 ⟨rfl, hb⟩
      have HL3 := hide (HL.out.below hb hlt1)
      have HZ3 := hide (HZ.out.below hb (by omega))
      have HB3 := hide (HB.out.trans (hb.mono (by omega)))
      clear hb
      unfold val
      go_wp2_with (with_reducible refine wpList_store_row rfl 28 (.tmp 3) (.tmp 14) rfl w1.heap.size (bcels (put (of (xs.take k)) x true)).toArray rfl rfl 28 _ HL3.out.heap (by rw [set_size, List.size_toArray, Hl2.out]) (by rw [List.size_toArray, List.size_toArray, Hl2.out, Hl.out]) (all_oneCell_toArray (bcels_one _)) ?_)
      go_roundw
      case rel => exact ⟨k + 1, by omega, by go_num, by rw [HT.out]; exact setRow_heap _ _ _ _ _ _ HL3.out.heap, (setRow_other _ _ _ _ (by omega)).trans HZ3.out, below_setRow HB3.out (by omega) _⟩
      case measure => simp [intOf]; omega
    · obtain rfl : k = n := by omega
      have HT : Hid (of (xs.take k) = of xs) := hide (by rw [List.take_of_length_le (by rw [HX.out]; exact Nat.le_refl _)])
      rw [HT.out] at HR Hl
      go_wp2_with (first | with_reducible refine wpList_load_mid rfl 28 (.tmp 3) rfl w1.heap.size 0 rfl (bcels (of xs)) _ HR.out Try.underlying28 rfl (by rw [set_size, Hl.out]) ?_ | with_reducible refine wpList_store_row rfl 28 (.tmp 2) (.tmp 16) rfl w.heap.size (bcels (of xs)).toArray rfl rfl 28 _ HZ.out.heap (by rw [set_size, List.size_toArray, Hl.out]) (by rw [List.size_toArray, List.size_toArray, Hl.out, bcels_length, empty_length]) (all_oneCell_toArray (bcels_one _)) ?_)
      refine bodyPost_ret (v := .agg (bcels (of xs)).toArray) (results_cell_row rfl _ _ w.heap.size 28 _ (0, 0) _ rfl (setRow_heap _ _ _ _ _ _ HZ.out.heap) Try.underlying28 rfl (by rw [set_size, List.size_toArray, Hl.out])) rfl ⟨rfl, below_setRow HB.out (Nat.le_refl _) _⟩

set_option maxHeartbeats 1000000 in
theorem of_any (A : Option Addr) (xs : List Int) (n c : Nat) (w : World) (hx : xs.length = n) (hA : Ints w w.heap.size A xs) (hn : n ≤ maxLen) :
    Calls Try.prog 11 #[.slice A n c] w fun e w' => e = .returned (.string (txt (of xs))) ∧ Below w.heap.size w w' := by
  replace hn : n ≤ 9223372036854775807 := hn
  have HX := hide hx
  have HA := hide hA
  have HW := hide (fun k b W => rWith_any (of (xs.take k)) (of_length _) b W)
  have H0 : Hid (.string (txt (of (xs.take 0))) = Value.string ⟨#[48, 48, 48, 48, 48, 48, 48, 48]⟩) := hide rfl
  clear hx hA
  go_enter Try.func11, Try.ntmps11
  go_wp2
  go_loopw [3, 4, 7] (fun s _ i wr => ∃ k : Nat, k ≤ n ∧ i = .int .i64 k ∧ s = .string (txt (of (xs.take k))) ∧ Below w.heap.size w wr) (fun _ _ i _ => n - (intOf i).toNat)
  case atStart => exact ⟨0, Nat.zero_le _, rfl, H0.out.symm, Below.refl _ _⟩
  case round =>
    obtain ⟨k, hk, rfl, rfl, hB⟩ := hrel
    have HB := hide hB
    clear hB
    by_cases hlt : k < n
    · obtain ⟨x, hx⟩ : ∃ x, xs[k]? = some x := ⟨_, List.getElem?_eq_getElem (by rw [HX.out]; exact hlt)⟩
      obtain ⟨b, o, rfl, hc⟩ := (HA.out.below HB.out).at_ hx
      have HT : Hid (of (xs.take (k + 1)) = put (of (xs.take k)) x true) := hide (by rw [take_more hx, of_snoc])
      have HWk := hide (HW.out k x wr)
      clear hx
      generalize txt (of (xs.take k)) = T at *
      go_wp2_with fail
      refine HWk.out.mono ?_
      rintro e w3 ⟨rfl, hb⟩
      have HB3 := hide (HB.out.trans (hb.mono HB.out.size))
      clear hb
      rw [← HT.out]
      go_wp2
      go_roundw
      case rel => exact ⟨k + 1, by omega, by go_num, rfl, HB3.out⟩
      case measure => simp [intOf]; omega
    · obtain rfl : k = n := by omega
      have HT : Hid (of (xs.take k) = of xs) := hide (by rw [List.take_of_length_le (by rw [HX.out]; exact Nat.le_refl _)])
      rw [HT.out]
      go_wp2
      go_ret
      exact ⟨rfl, HB.out⟩

end Go.Proofs.Ytmenedndchakjaa.Bt
