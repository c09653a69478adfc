/-
  The contract of disk.New: a new disk of zeros; and of the statements' own full and awake. Nothing that was there is changed.
-/
import Derived.Test.YthdgidfdjnfpiaaDoorDkCrash
namespace Go.Proofs.YthdgidfdjnfpiaaDoor.Dk
open Go.RowKit
open Pk Sm Fa

def fl (c : UInt8) : Sec := List.replicate 64 c
theorem fl_length (c : UInt8) : (fl c).length = 64 := List.length_replicate
theorem fl_zero : fl 0 = zero := rfl
/-- A row whose cells are known, read as bytes. -/
theorem byt_row {w : World} {g t : Nat} {l : List UInt8} (hg : w.heap[g]? = some (.cells (cels l).toArray t (0, 0))) : Byt w w.heap.size (some ⟨g, 0, none⟩) l := fun _ => by
  refine ⟨g, 0, rfl, (Array.getElem?_eq_some_iff.1 hg).1, fun j u hu => ?_⟩
  have hj : (cels l)[j]? = some (cel u) := by simp [cels, hu]
  simp only [World.cell?, hg, Nat.zero_add]
  simp [hj]
theorem zeros_full (n : Nat) : Full (List.replicate n zero) := fun s hs => by rw [List.eq_of_mem_replicate hs]; exact zero_length
theorem made_secs (n : Nat) : (madeCells (Value.agg (cels zero).toArray).cells (n * 64)).toList = scels (List.replicate n zero) := by
  have hl : (scels (List.replicate n zero)).length = n * 64 := by
    have := flat_len (f := cels) (m := 64) (List.replicate n zero) (zeros_full n).cels
    rw [List.length_replicate] at this
    exact this
  apply List.ext_getElem?
  intro j
  by_cases hj : j < n * 64
  · have hk : j / 64 < n := by omega
    have h1 := flat_get (f := cels) (m := 64) (List.replicate n zero) (zeros_full n).cels (j / 64) (j % 64) zero (by simp [hk]) (Nat.mod_lt _ (by omega))
    rw [show j / 64 * 64 + j % 64 = j by omega] at h1
    rw [show scels (List.replicate n zero) = (List.replicate n zero).flatMap cels from rfl, h1]
    have h2 : j % 64 < (cels zero).length := by rw [n64]; omega
    simp [madeCells, Value.cells, hj, n64]
    rw [List.getElem?_eq_getElem h2]
    simp
  · rw [List.getElem?_eq_none (by rw [Array.length_toList, size_madeCells]; omega), List.getElem?_eq_none (by rw [hl]; omega)]

theorem sec_info : (Tryd.prog.info? 70).map (fun i => (i.zero, i.size, i.bytes)) = some (some (.agg (cels zero).toArray), 64, 64) := by kernel_rfl

/-- A new disk of n sectors. -/
def Made (w : World) (n : Nat) (e : Ending) (w' : World) : Prop :=
  ∃ p G, e = .returned (.pointer (some ⟨p, 0, none⟩)) ∧ Dsk w' G p (List.replicate n zero) [] ∧ (∀ k, G k → w.heap.size ≤ k) ∧ Below w.heap.size w w'

theorem made_mk (w w1 : World) (n : Nat) (hn : n ≤ 1024) (h1 : w1 = w.alloc (.cells (madeCells (Value.agg (cels zero).toArray).cells (n * 64)) 70)) :
    Made w n (.returned (.pointer (some ⟨w1.heap.size, 0, none⟩))) (w1.alloc (.cells #[.slice (some ⟨w.heap.size, 0, none⟩) n n, .slice none 0 0] 60)) := by
  have hs : w1.heap.size = w.heap.size + 1 := by rw [h1]; simp
  have hb1 : Below w.heap.size w w1 := by rw [h1]; exact (Below.refl _ _).alloc (Nat.le_refl _) _
  have hg1 : w1.heap[w.heap.size]? = some (.cells (madeCells (Value.agg (cels zero).toArray).cells (n * 64)) 70 (0, 0)) := by rw [h1]; exact heap_alloc_new w _
  refine ⟨w1.heap.size, fun k => k = w.heap.size ∨ k = w1.heap.size, rfl, ⟨_, _, heap_alloc_new w1 _, ?_, World.ownsRow_nil _ _ _ _, Or.inr rfl, ?_, fun k hk => by simp [Value.ownBlock] at hk, ?_, zeros_full n, fun x hx => by cases hx⟩, ?_, hb1.alloc hb1.size _⟩
  · refine ⟨?_, Or.inr ⟨w.heap.size, n, _, by rw [List.length_replicate], Nat.zero_le _, (Below.heap_alloc _ _ _ (by omega)).trans hg1, by rw [List.length_replicate]; exact Nat.le_refl _, by unfold maxLen; omega, size_madeCells _ _, ?_⟩⟩
    · have := flat_len (f := cels) (m := 64) (List.replicate n zero) (zeros_full n).cels
      exact this
    · rw [made_secs, List.length_replicate, List.take_of_length_le]
      have := flat_len (f := cels) (m := 64) (List.replicate n zero) (zeros_full n).cels
      rw [List.length_replicate] at this
      exact Nat.le_of_eq this
  · intro k hk
    have : w.heap.size = k := by simpa [Value.ownBlock] using hk
    subst this
    exact ⟨Or.inl rfl, by omega⟩
  · intro k hk
    simp
    omega
  · intro k hk
    omega

set_option maxRecDepth 100000 in
theorem New_any (i : Int) (n : Nat) (w : World) (hn : (n : Int) = min (max i 0) 1024) :
    Calls Tryd.prog 11 #[.int .i64 i] w (Made w n) := by
  obtain ⟨i0, hi0, hz0, hz1, hz2⟩ := info_parts sec_info
  have hle : n ≤ 1024 := by omega
  have Hle := hide hle
  have Hz1 := hide hz1
  have Hz2 := hide hz2
  have hmx : min (max i 0) 1024 = (n : Int) := hn.symm
  clear hz1 hz2 hle hn
  go_enter Tryd.func11, Tryd.ntmps11
  go_wp2_with (with_reducible refine wpList_make_told rfl 57 _ _ rfl 70 i0 _ Tryd.underlying57 hi0 hz0 .i64 .i64 n n rfl rfl (Nat.le_refl _) (by rw [Hz2.out]; have := Hle.out; omega) (by have := Hle.out; omega) 64 Hz1.out ?_)
  intro w1 Hw1
  have HM := hide (made_mk w w1 n Hle.out Hw1.out)
  clear hmx
  go_wp2
  go_ret
  exact HM.out

theorem fl_step (c : UInt8) (k : Nat) (h : k < 64) : (cels (List.replicate k c ++ List.replicate (64 - k) 0)).toArray.setIfInBounds k (cel c) = (cels (List.replicate (k + 1) c ++ List.replicate (64 - (k + 1)) 0)).toArray := by
  apply Array.ext'
  rw [Array.toList_setIfInBounds]
  have hl : (cels (List.replicate k c)).length = k := by rw [cels_length, List.length_replicate]
  rw [show 64 - k = (64 - (k + 1)) + 1 by omega, List.replicate_succ, cels_append, List.set_append_right _ _ (by rw [hl]; exact Nat.le_refl _), hl, Nat.sub_self, List.replicate_succ' (n := k), List.append_assoc, cels_append]
  rfl

/-- A new row of 64 bytes c. -/
def Fulls (w : World) (l : Sec) (e : Ending) (w' : World) : Prop :=
  ∃ g, e = .returned (.slice (some ⟨g, 0, none⟩) 64 64) ∧ w.heap.size ≤ g ∧ w'.heap[g]? = some (.cells (cels l).toArray 5 (0, 0)) ∧ Below w.heap.size w w'

set_option maxRecDepth 100000 in
theorem full_any (c : UInt8) (v : Int) (w : World) (hv : (c.toNat : Int) = v) : Calls Tryd.prog 26 #[.int .u8 v] w (Fulls w (fl c)) := by
  obtain ⟨i0, hi0, hz0, hz1, hz2⟩ := info_parts u8_info
  have Hz := hide hz1
  have Hz2 := hide hz2
  have Hv := hide (show cel c = .int .u8 v by rw [cel, hv])
  clear hz1 hz2 hv
  go_enter Tryd.func26, Tryd.ntmps26
  go_wp2_with (with_reducible refine wpList_make_told rfl 38 _ _ rfl 5 i0 _ Tryd.underlying38 hi0 hz0 .i64 .i64 64 64 rfl rfl (by omega) (by rw [Hz2.out]; decide) (by omega) 1 Hz.out ?_)
  intro w1 Hw1
  have HB1 : Hid (Below w.heap.size w w1) := by rw [Hw1.out]; exact (Below.refl _ _).alloc (Nat.le_refl _) _
  have HG1 : Hid (w1.heap[w.heap.size]? = some (.cells (cels zero).toArray 5 (0, 0))) := by
    rw [Hw1.out]
    refine (heap_alloc_new w _).trans ?_
    rw [← made_zero, Array.toArray_toList]
  clear Hw1
  go_wp2
  go_loopw [8] (fun j wr => ∃ k : Nat, k ≤ 64 ∧ j = .int .i64 k ∧ Hid (wr.heap[w.heap.size]? = some (.cells (cels (List.replicate k c ++ List.replicate (64 - k) 0)).toArray 5 (0, 0))) ∧ Hid (Below w.heap.size w wr)) (fun j _ => 64 - (intOf j).toNat)
  case atStart => exact ⟨0, Nat.zero_le _, rfl, HG1.out, HB1.out⟩
  case round =>
    obtain ⟨k, hk, rfl, hg, hb⟩ := hrel
    rcases Nat.lt_or_ge k 64 with hlt | hge
    · have hc : wr.cell? ⟨w.heap.size, k, none⟩ = some ((cels (List.replicate k c ++ List.replicate (64 - k) 0)).getD k (.bool true)) := by
        rw [cell_of_row wr _ k _ _ _ hg.out]
        have : k < (cels (List.replicate k c ++ List.replicate (64 - k) 0)).length := by rw [cels_length]; simp; omega
        simp [List.getElem?_eq_getElem this]
      have hf : wr.frozen? ⟨w.heap.size, k, none⟩ = false := by simp [World.frozen?, hg.out]
      have HG2 := hide (show (wr.setCell ⟨w.heap.size, k, none⟩ (.int .u8 v)).heap[w.heap.size]? = some (.cells (cels (List.replicate (k + 1) c ++ List.replicate (64 - (k + 1)) 0)).toArray 5 (0, 0)) by
        rw [heap_setCell_same wr _ k _ _ _ hg.out, ← Hv.out, fl_step c k hlt])
      have HB2 := hide (hb.out.setCell (p := ⟨w.heap.size, k, none⟩) (Nat.le_refl _) (.int .u8 v))
      have Hlt := hide hlt
      have hki : (k : Int) < 64 := by omega
      clear hg hb hlt
      go_wp2
      go_roundw
      case rel => exact ⟨k + 1, Hlt.out, by go_num, HG2.out, HB2.out⟩
      case measure => have := Hlt.out; simp [intOf]; omega
    · obtain rfl : k = 64 := by omega
      have HG2 := hide hg.out
      clear hg
      go_wp2
      go_ret
      exact ⟨_, rfl, Nat.le_refl _, by simpa [fl] using HG2.out, hb.out⟩

theorem made_length {w w' : World} {n : Nat} {e : Ending} (h : Made w n e w') : ∃ p G, e = .returned (.pointer (some ⟨p, 0, none⟩)) ∧ Dsk w' G p (List.replicate n zero) [] ∧ (∀ k, G k → w.heap.size ≤ k) ∧ Below w.heap.size w w' := h

set_option maxRecDepth 100000 in
set_option maxHeartbeats 2000000 in
theorem awake_any (w : World) (hty : Ety w) : Calls Tryd.prog 9 #[] w fun r w' => r = .returned (.bool true) ∧ Below w.heap.size w w' := by
  have HN := hide (New_any 2 2 w (by decide))
  have Hty := hide hty
  clear hty
  go_enter Tryd.func9, Tryd.ntmps9
  go_wp2_with fail
  refine HN.out.mono ?_
  rintro r w1 ⟨p, G, rfl, hd, hG, hb1⟩
  have HL := hide (Len_any hd)
  have HG := hide hG
  have HB1 := hide hb1
  have HD1 := hide hd
  clear hd hG hb1 HN
  go_wp2_with fail
  refine HL.out.mono ?_
  rintro r w1' ⟨rfl, rfl⟩
  have HF := hide (full_any 7 7 w1 rfl)
  clear HL
  go_wp2_with fail
  refine HF.out.mono ?_
  rintro r w2 ⟨g, rfl, hg, hc, hb2⟩
  have hB2 := HB1.out.trans (hb2.mono HB1.out.size)
  have HW := hide (Write_any w2 G p 1 64 _ _ [] (fl 7) (HD1.out.below hb2) (by decide) (byt_row hc) (fl_length 7) (by decide))
  have HB2 := hide hB2
  clear HF hb2 hB2 hc hg HD1
  go_wp2_with fail
  refine HW.out.mono ?_
  rintro r w3 ⟨rfl, G3, hd3, hgr3, hk3⟩
  have HG3 := hide (hgr3.from HG.out HB2.out.size)
  have HB3 := hide (HB2.out.trans (hk3.below HG.out HB2.out.size))
  have HD3 := hide hd3
  have HF := hide (full_any 7 7 w3 rfl)
  clear HW hd3 hgr3 hk3
  go_wp2_with fail
  refine HF.out.mono ?_
  rintro r w4 ⟨g, rfl, hg, hc, hb4⟩
  have hd4 := HD3.out.below hb4
  have HW := hide (Write_out (.pointer (some ⟨p, 0, none⟩)) 2 (.slice (some ⟨g, 0, none⟩) 64 64) 2 w4 (Len_any hd4) (by decide))
  have HB4 := hide (HB3.out.trans (hb4.mono HB3.out.size))
  have HD4 := hide hd4
  clear HF hb4 hc hg hd4 HD3
  go_wp2_with fail
  refine HW.out.mono ?_
  rintro r w5 ⟨rfl, hw5⟩
  have hb5 : Below w4.heap.size w4 w5 := by rw [hw5]; exact flt_below w4 2 5
  have HB5 := hide (HB4.out.trans (hb5.mono HB4.out.size))
  have HD5 := hide (HD4.out.below hb5)
  have HC := hide (Code_any _ _ _ 5 w5 (Hty.out.below HB5.out Hty.out.lt) (by rw [hw5]; exact flt_chain w4 2 5) (Or.inr rfl) (by simp))
  clear HW hw5 hb5 HD4
  go_wp2_with fail
  refine HC.out.mono ?_
  rintro r w6 ⟨rfl, hb6⟩
  have HB6 := hide (HB5.out.trans (hb6.mono HB5.out.size))
  have hd6 := HD5.out.below hb6
  have HR := hide (Read_any w6 G3 p 1 _ _ (fl 7) hd6 (by decide) (by decide) (by decide))
  have HD6 := hide hd6
  clear HC hb6 hd6 HD5
  go_wp2_with fail
  refine HR.out.mono ?_
  rintro r w7 ⟨g7, rfl, hg7, hc7, hb7⟩
  have HB7 := hide (HB6.out.trans (hb7.mono HB6.out.size))
  have HL := hide (Loose_any (HD6.out.below hb7))
  have hc0 : w7.cell? ⟨g7, 0, none⟩ = some (.int .u8 7) := by rw [cell_of_row w7 _ 0 _ _ _ hc7.out]; rfl
  clear HR hb7 hc7 hg7 HD6
  go_wp2_with fail
  refine HL.out.mono ?_
  rintro r w8 ⟨rfl, rfl⟩
  go_wp2
  go_ret
  exact ⟨rfl, HB7.out⟩

end Go.Proofs.YthdgidfdjnfpiaaDoor.Dk
