/-
  Several disks side by side: whose block is whose; what a call on one disk leaves of the others. Plain theorems, no premise beyond those in each.
-/
import Derived.Test.YtapiogcoipeinaaGreatDoorU17
import Derived.Lib.MinMax
namespace Go.Proofs.YtapiogcoipeinaaGreatDoor.Dk
open Go.RowKit
open Pk Sm Fa
def fl (c : UInt8) : Sec := List.replicate 64 c
theorem byt_row {w : World} {g t : Nat} {l : List UInt8} (hg : w.heap[g]? = some (.cells (cels l).toArray t (0, 0))) : Byt w w.heap.size (some ⟨g, 0, none⟩) l := fun _ => by
 refine ⟨g, 0, rfl, (Array.getElem?_eq_some_iff.1 hg).1, fun j u hu => ?_⟩
 have hj : (cels l)[j]? = some (cel u) := by simp [cels, hu]
 simp only [World.cell?, hg, Nat.zero_add]
 simp [hj]
theorem zeros_full (n : Nat) : Full (List.replicate n zero) := fun s hs => by rw [List.eq_of_mem_replicate hs]; exact zero_length
theorem made_secs (n : Nat) : (madeCells (Value.agg (cels zero).toArray).cells (n * 64)).toList = scels (List.replicate n zero) := by
 have hl : (scels (List.replicate n zero)).length = n * 64 := by
  have := flat_len (f := cels) (m := 64) (List.replicate n zero) (zeros_full n).cels
  rw [List.length_replicate] at this
  exact this
 apply List.ext_getElem?
 intro j
 by_cases hj : j < n * 64
 ·have hk : j / 64 < n := by omega
  have h1 := flat_get (f := cels) (m := 64) (List.replicate n zero) (zeros_full n).cels (j / 64) (j % 64) zero (by simp [hk]) (Nat.mod_lt _ (by omega))
  rw [show j / 64 * 64 + j % 64 = j by omega] at h1
  rw [show scels (List.replicate n zero) = (List.replicate n zero).flatMap cels from rfl, h1]
  have h2 : j % 64 < (cels zero).length := by rw [n64]; omega
  simp [madeCells, Value.cells, hj, n64]
  rw [List.getElem?_eq_getElem h2]
  simp
 ·rw [List.getElem?_eq_none (by rw [Array.length_toList, size_madeCells]; omega), List.getElem?_eq_none (by rw [hl]; omega)]
theorem sec_info : (Tryz.prog.info? 113).map (fun i => (i.zero, i.size, i.bytes)) = some (some (.agg (cels zero).toArray), 64, 64) := by kernel_rfl
def Made (w : World) (n : Nat) (e : Ending) (w' : World) : Prop :=
 ∃ p G, e = .returned (.pointer (some ⟨p, 0, none⟩)) ∧ Dsk w' G p (List.replicate n zero) [] ∧ (∀ k, G k → w.heap.size ≤ k) ∧ Below w.heap.size w w'
theorem made_mk (w w1 : World) (n : Nat) (hn : n ≤ 1024) (h1 : w1 = w.alloc (.cells (madeCells (Value.agg (cels zero).toArray).cells (n * 64)) 113)) :
 Made w n (.returned (.pointer (some ⟨w1.heap.size, 0, none⟩))) (w1.alloc (.cells #[.slice (some ⟨w.heap.size, 0, none⟩) n n, .slice none 0 0] 81)) := by
 have hs : w1.heap.size = w.heap.size + 1 := by rw [h1]; simp
 have hb1 : Below w.heap.size w w1 := by rw [h1]; exact (Below.refl _ _).alloc (Nat.le_refl _) _
 have hg1 : w1.heap[w.heap.size]? = some (.cells (madeCells (Value.agg (cels zero).toArray).cells (n * 64)) 113 (0, 0)) := by rw [h1]; exact heap_alloc_new w _
 refine ⟨w1.heap.size, fun k => k = w.heap.size ∨ k = w1.heap.size, rfl, ⟨_, _, heap_alloc_new w1 _, ?_, World.ownsRow_nil _ _ _ _, Or.inr rfl, ?_, fun k hk => by simp [Value.ownBlock] at hk, ?_, zeros_full n, fun x hx => by cases hx⟩, ?_, hb1.alloc hb1.size _⟩
 ·refine ⟨?_, Or.inr ⟨w.heap.size, n, _, by rw [List.length_replicate], Nat.zero_le _, (Below.heap_alloc _ _ _ (by omega)).trans hg1, by rw [List.length_replicate]; exact Nat.le_refl _, by unfold maxLen; omega, size_madeCells _ _, ?_⟩⟩
  ·have := flat_len (f := cels) (m := 64) (List.replicate n zero) (zeros_full n).cels
   exact this
  ·rw [made_secs, List.length_replicate, List.take_of_length_le]
   have := flat_len (f := cels) (m := 64) (List.replicate n zero) (zeros_full n).cels
   rw [List.length_replicate] at this
   exact Nat.le_of_eq this
 ·intro k hk
  have : w.heap.size = k := by simpa [Value.ownBlock] using hk
  subst this
  exact ⟨Or.inl rfl, by omega⟩
 ·intro k hk
  simp
  omega
 ·intro k hk
  omega
set_option maxRecDepth 100000 in
theorem New_any (i : Int) (n : Nat) (w : World) (hn : (n : Int) = min (max i 0) 1024) :
 Calls Tryz.prog 8 #[.int .i64 i] w (Made w n) := by
 obtain ⟨i0, hi0, hz0, hz1, hz2⟩ := info_parts sec_info
 have hle : n ≤ 1024 := by omega
 have Hle := hide hle
 have Hz1 := hide hz1
 have Hz2 := hide hz2
 have hmx : min (max i 0) 1024 = (n : Int) := hn.symm
 clear hz1 hz2 hle hn
 go_enter Tryz.func8, Tryz.ntmps8
 go_wp2_with (with_reducible refine wpList_make_told rfl 78 _ _ rfl 113 i0 _ Tryz.underlying78 hi0 hz0 .i64 .i64 n n rfl rfl (Nat.le_refl _) (by rw [Hz2.out]; have := Hle.out; omega) (by have := Hle.out; omega) 64 Hz1.out ?_)
 intro w1 Hw1
 have HM := hide (made_mk w w1 n Hle.out Hw1.out)
 clear hmx
 go_wp2
 go_ret
 exact HM.out
end Go.Proofs.YtapiogcoipeinaaGreatDoor.Dk
namespace Go.Proofs.YtapiogcoipeinaaGreatDoor.Dk
open Go.RowKit
open Pk Sm Fa
theorem Dsk.congr {w : World} {G G' : Nat → Prop} {p : Nat} {S : List Sec} {L : List Wr} (h : Dsk w G p S L) (hG : ∀ k, G k ↔ G' k) : Dsk w G' p S L := by
 have : G = G' := funext fun k => propext (hG k)
 exact this ▸ h
def At (C : Nat → Option Nat) (w : World) (i p : Nat) (S : List Sec) (L : List Wr) : Prop := Dsk w (fun k => C k = some i) p S L
def From (C : Nat → Option Nat) (B : Nat) : Prop := ∀ k i, C k = some i → B ≤ k
def Others (C C' : Nat → Option Nat) (i : Nat) (w w' : World) : Prop := ∀ j q T M, j ≠ i → At C w j q T M → At C' w' j q T M
theorem At.below {C : Nat → Option Nat} {w w' : World} {i p : Nat} {S : List Sec} {L : List Wr} (h : At C w i p S L) (hb : Below w.heap.size w w') : At C w' i p S L := Dsk.below h hb
open Classical in
theorem At.step {C : Nat → Option Nat} {w w' : World} {i p B : Nat} {S : List Sec} {L : List Wr} (h : Post w (fun k => C k = some i) p S L w') (hF : From C B) (hB : B ≤ w.heap.size) :
 ∃ C', At C' w' i p S L ∧ Others C C' i w w' ∧ From C' B ∧ Below B w w' ∧ Kept (fun k => C k = some i) w w' := by
 obtain ⟨G', hd, hg, hk⟩ := h
 refine ⟨fun k => if G' k then some i else if C k = some i then none else C k, hd.congr fun k => ?_, ?_, ?_, hk.below (fun k hk => hF k i hk) hB, hk⟩
 ·by_cases h1 : G' k
  ·simp [h1]
  ·by_cases h2 : C k = some i
   ·simp [h1, h2]
   ·simp [h1, h2]
 ·intro j q T M hj hq
  refine (Dsk.kept hq hk fun k h1 h2 => hj (Option.some.inj (h1.symm.trans h2))).congr fun k => ?_
  have hne : (some j : Option Nat) ≠ some i := fun e => hj (Option.some.inj e)
  by_cases h1 : G' k
  ·have h3 : ¬ C k = some j := fun h3 => by
    rcases hg k h1 with h4 | h4
    ·exact hne (h3.symm.trans h4)
    ·have := Dsk.lt hq k h3
     omega
   simp [h1, h3, Ne.symm hj]
  ·by_cases h2 : C k = some i
   ·simp [h1, h2, Ne.symm hj]
   ·simp [h1, h2]
 ·intro k j hkj
  by_cases h1 : G' k
  ·exact (hg.from (fun k hk => hF k i hk) hB) k h1
  ·by_cases h2 : C k = some i
   ·simp [h1, h2] at hkj
   ·simp only [h1, h2, if_false] at hkj
    exact hF k j hkj
open Classical in
theorem At.fresh {C : Nat → Option Nat} {w w' : World} {i n B : Nat} {e : Ending} (h : Made w n e w') (hi : ∀ k, C k ≠ some i) (hF : From C B) (hB : B ≤ w.heap.size) :
 ∃ p C', e = .returned (.pointer (some ⟨p, 0, none⟩)) ∧ At C' w' i p (List.replicate n zero) [] ∧ Others C C' i w w' ∧ From C' B ∧ Below w.heap.size w w' ∧ (∀ k j, C' k = some j → j = i ∨ C k = some j) := by
 obtain ⟨p, G, he, hd, hG, hb⟩ := h
 refine ⟨p, fun k => if G k then some i else C k, he, hd.congr fun k => ?_, ?_, ?_, hb, ?_⟩
 ·by_cases h1 : G k
  ·simp [h1]
  ·simp [h1, hi k]
 ·intro j q T M hj hq
  refine (Dsk.below hq hb).congr fun k => ?_
  by_cases h1 : G k
  ·have h3 : ¬ C k = some j := fun h3 => by have := Dsk.lt hq k h3; have := hG k h1; omega
   simp [h1, h3, Ne.symm hj]
  ·simp [h1]
 ·intro k j hkj
  by_cases h1 : G k
  ·have := hG k h1
   omega
  ·simp only [h1, if_false] at hkj
   exact hF k j hkj
 ·intro k j hkj
  by_cases h1 : G k
  ·simp only [h1, if_true] at hkj
   exact Or.inl (Option.some.inj hkj).symm
  ·simp only [h1, if_false] at hkj
   exact Or.inr hkj
end Go.Proofs.YtapiogcoipeinaaGreatDoor.Dk
