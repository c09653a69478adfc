/-
  The contract of disk.New: a new disk of zeros; and of the statements' own full and awake. Nothing that was there is changed.
-/
import Derived.Test.YtnmpckhlpkmojaaGreatDoorDkCrash
import Derived.Lib.MinMax
namespace Go.Proofs.YtnmpckhlpkmojaaGreatDoor.Dk
open Go.RowKit
open Pk Sm Fa

def fl (c : UInt8) : Sec := List.replicate 64 c
theorem fl_length (c : UInt8) : (fl c).length = 64 := List.length_replicate
theorem fl_zero : fl 0 = zero := rfl
/-- A row whose cells are known, read as bytes. -/
theorem byt_row {w : World} {g t : Nat} {l : List UInt8} (hg : w.heap[g]? = some (.cells (cels l).toArray t (0, 0))) : Byt w w.heap.size (some ⟨g, 0, none⟩) l := fun _ => by
  refine ⟨g, 0, rfl, (Array.getElem?_eq_some_iff.1 hg).1, fun j u hu => ?_⟩
  have hj : (cels l)[j]? = some (cel u) := by simp [cels, hu]
  simp only [World.cell?, hg, Nat.zero_add]
  simp [hj]
theorem zeros_full (n : Nat) : Full (List.replicate n zero) := fun s hs => by rw [List.eq_of_mem_replicate hs]; exact zero_length
theorem made_secs (n : Nat) : (madeCells (Value.agg (cels zero).toArray).cells (n * 64)).toList = scels (List.replicate n zero) := by
  have hl : (scels (List.replicate n zero)).length = n * 64 := by
    have := flat_len (f := cels) (m := 64) (List.replicate n zero) (zeros_full n).cels
    rw [List.length_replicate] at this
    exact this
  apply List.ext_getElem?
  intro j
  by_cases hj : j < n * 64
  · have hk : j / 64 < n := by omega
    have h1 := flat_get (f := cels) (m := 64) (List.replicate n zero) (zeros_full n).cels (j / 64) (j % 64) zero (by simp [hk]) (Nat.mod_lt _ (by omega))
    rw [show j / 64 * 64 + j % 64 = j by omega] at h1
    rw [show scels (List.replicate n zero) = (List.replicate n zero).flatMap cels from rfl, h1]
    have h2 : j % 64 < (cels zero).length := by rw [n64]; omega
    simp [madeCells, Value.cells, hj, n64]
    rw [List.getElem?_eq_getElem h2]
    simp
  · rw [List.getElem?_eq_none (by rw [Array.length_toList, size_madeCells]; omega), List.getElem?_eq_none (by rw [hl]; omega)]

theorem sec_info : (Tryz.prog.info? 98).map (fun i => (i.zero, i.size, i.bytes)) = some (some (.agg (cels zero).toArray), 64, 64) := by kernel_rfl

/-- A new disk of n sectors. -/
def Made (w : World) (n : Nat) (e : Ending) (w' : World) : Prop :=
  ∃ p G, e = .returned (.pointer (some ⟨p, 0, none⟩)) ∧ Dsk w' G p (List.replicate n zero) [] ∧ (∀ k, G k → w.heap.size ≤ k) ∧ Below w.heap.size w w'

theorem made_mk (w w1 : World) (n : Nat) (hn : n ≤ 1024) (h1 : w1 = w.alloc (.cells (madeCells (Value.agg (cels zero).toArray).cells (n * 64)) 98)) :
    Made w n (.returned (.pointer (some ⟨w1.heap.size, 0, none⟩))) (w1.alloc (.cells #[.slice (some ⟨w.heap.size, 0, none⟩) n n, .slice none 0 0] 66)) := by
  have hs : w1.heap.size = w.heap.size + 1 := by rw [h1]; simp
  have hb1 : Below w.heap.size w w1 := by rw [h1]; exact (Below.refl _ _).alloc (Nat.le_refl _) _
  have hg1 : w1.heap[w.heap.size]? = some (.cells (madeCells (Value.agg (cels zero).toArray).cells (n * 64)) 98 (0, 0)) := by rw [h1]; exact heap_alloc_new w _
  refine ⟨w1.heap.size, fun k => k = w.heap.size ∨ k = w1.heap.size, rfl, ⟨_, _, heap_alloc_new w1 _, ?_, World.ownsRow_nil _ _ _ _, Or.inr rfl, ?_, fun k hk => by simp [Value.ownBlock] at hk, ?_, zeros_full n, fun x hx => by cases hx⟩, ?_, hb1.alloc hb1.size _⟩
  · refine ⟨?_, Or.inr ⟨w.heap.size, n, _, by rw [List.length_replicate], Nat.zero_le _, (Below.heap_alloc _ _ _ (by omega)).trans hg1, by rw [List.length_replicate]; exact Nat.le_refl _, by unfold maxLen; omega, size_madeCells _ _, ?_⟩⟩
    · have := flat_len (f := cels) (m := 64) (List.replicate n zero) (zeros_full n).cels
      exact this
    · rw [made_secs, List.length_replicate, List.take_of_length_le]
      have := flat_len (f := cels) (m := 64) (List.replicate n zero) (zeros_full n).cels
      rw [List.length_replicate] at this
      exact Nat.le_of_eq this
  · intro k hk
    have : w.heap.size = k := by simpa [Value.ownBlock] using hk
    subst this
    exact ⟨Or.inl rfl, by omega⟩
  · intro k hk
    simp
    omega
  · intro k hk
    omega

set_option maxRecDepth 100000 in
theorem New_any (i : Int) (n : Nat) (w : World) (hn : (n : Int) = min (max i 0) 1024) :
    Calls Tryz.prog 7 #[.int .i64 i] w (Made w n) := by
  obtain ⟨i0, hi0, hz0, hz1, hz2⟩ := info_parts sec_info
  have hle : n ≤ 1024 := by omega
  have Hle := hide hle
  have Hz1 := hide hz1
  have Hz2 := hide hz2
  have hmx : min (max i 0) 1024 = (n : Int) := hn.symm
  clear hz1 hz2 hle hn
  go_enter Tryz.func7, Tryz.ntmps7
  go_wp2_with (with_reducible refine wpList_make_told rfl 63 _ _ rfl 98 i0 _ Tryz.underlying63 hi0 hz0 .i64 .i64 n n rfl rfl (Nat.le_refl _) (by rw [Hz2.out]; have := Hle.out; omega) (by have := Hle.out; omega) 64 Hz1.out ?_)
  intro w1 Hw1
  have HM := hide (made_mk w w1 n Hle.out Hw1.out)
  clear hmx
  go_wp2
  go_ret
  exact HM.out

theorem fl_step (c : UInt8) (k : Nat) (h : k < 64) : (cels (List.replicate k c ++ List.replicate (64 - k) 0)).toArray.setIfInBounds k (cel c) = (cels (List.replicate (k + 1) c ++ List.replicate (64 - (k + 1)) 0)).toArray := by
  apply Array.ext'
  rw [Array.toList_setIfInBounds]
  have hl : (cels (List.replicate k c)).length = k := by rw [cels_length, List.length_replicate]
  rw [show 64 - k = (64 - (k + 1)) + 1 by omega, List.replicate_succ, cels_append, List.set_append_right _ _ (by rw [hl]; exact Nat.le_refl _), hl, Nat.sub_self, List.replicate_succ' (n := k), List.append_assoc, cels_append]
  rfl

/-- A new row of 64 bytes c. -/
def Fulls (w : World) (l : Sec) (e : Ending) (w' : World) : Prop :=
  ∃ g, e = .returned (.slice (some ⟨g, 0, none⟩) 64 64) ∧ w.heap.size ≤ g ∧ w'.heap[g]? = some (.cells (cels l).toArray 5 (0, 0)) ∧ Below w.heap.size w w'

theorem made_length {w w' : World} {n : Nat} {e : Ending} (h : Made w n e w') : ∃ p G, e = .returned (.pointer (some ⟨p, 0, none⟩)) ∧ Dsk w' G p (List.replicate n zero) [] ∧ (∀ k, G k → w.heap.size ≤ k) ∧ Below w.heap.size w w' := h

end Go.Proofs.YtnmpckhlpkmojaaGreatDoor.Dk
