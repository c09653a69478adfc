/-
  The contracts of a nil stage's calls; the walk of isobarlaw12.StageNil: it returns true, at every record and every number; nothing that was there is changed.
-/
import Derived.Test.YteneacmdfehfnaaDoorSgErrD
import Derived.Test.YteneacmdfehfnaaDoorSgWalk
namespace Go.Proofs.YteneacmdfehfnaaDoor.Sg
open Go.RowKit
open Pk Dk Wn Lk Rc Fa

section
variable (w : World)
set_option maxRecDepth 100000 in
theorem Last_nil : Calls Tryd.prog 23 #[.pointer none] w fun e w' => e = .returned (.tuple #[.int .i64 0, .int .i64 0]) ∧ w = w' := by
  go_enter Tryd.func23, Tryd.ntmps23
  go_wp2
  go_ret2
  exact ⟨rfl, rfl⟩
set_option maxRecDepth 100000 in
theorem Dropped_nil : Calls Tryd.prog 24 #[.pointer none] w fun e w' => e = .returned (.tuple #[.int .i64 0, .int .i64 0]) ∧ w = w' := by
  go_enter Tryd.func24, Tryd.ntmps24
  go_wp2
  go_ret2
  exact ⟨rfl, rfl⟩
set_option maxRecDepth 100000 in
theorem Flush_nil : Calls Tryd.prog 12 #[.pointer none] w fun e w' => e = .returned (.tuple #[]) ∧ w = w' := by
  go_enter Tryd.func12, Tryd.ntmps12
  go_wp2
  go_end0
  exact ⟨rfl, rfl⟩
set_option maxRecDepth 100000 in
theorem Crash_nil (k : Int) : Calls Tryd.prog 13 #[.pointer none, .int .i64 k] w fun e w' => e = .returned (.tuple #[]) ∧ w = w' := by
  go_enter Tryd.func13, Tryd.ntmps13
  go_wp2
  exact bodyPost_ret (results_none rfl _ _ _) rfl ⟨rfl, rfl⟩
set_option maxRecDepth 100000 in
theorem Cut_nil : Calls Tryd.prog 22 #[.pointer none] w fun e w' => e = .returned (.int .i64 0) ∧ w = w' := by
  go_enter Tryd.func22, Tryd.ntmps22
  go_wp2
  go_ret
  exact ⟨rfl, rfl⟩
set_option maxRecDepth 100000 in
theorem safe_nil : Calls Tryd.prog 35 #[.pointer none] w fun e w' => e = .returned (.slice none 0 0) ∧ w = w' := by
  go_enter Tryd.func35, Tryd.ntmps35
  go_wp2
  go_ret
  exact ⟨rfl, rfl⟩
set_option maxRecDepth 100000 in
theorem Marks_nil : Calls Tryd.prog 26 #[.pointer none] w fun e w' => e = .returned (.slice none 0 0) ∧ Below w.heap.size w w' := by
  have HB := hide (Below.refl w.heap.size w)
  go_enter Tryd.func26, Tryd.ntmps26
  go_wp2_with fail
  refine (safe_nil w).mono ?_
  rintro e w2 ⟨rfl, hw⟩
  subst hw
  go_wp2_with fail
  go_loopw [3, 9] (fun v j wr => v = .slice none 0 0 ∧ j = .int .i64 0 ∧ w = wr) (fun _ _ _ => 0)
  case atStart => exact ⟨rfl, rfl, rfl⟩
  case round =>
    obtain ⟨rfl, rfl, rfl⟩ := hrel
    go_wp2
    go_ret
    exact ⟨rfl, HB.out⟩
set_option maxRecDepth 100000 in
theorem reach_nil (m : Int) : Calls Tryd.prog 31 #[.pointer none, .int .i64 m] w fun e w' => e = .returned (.int .i64 0) ∧ Below w.heap.size w w' := by
  have hb : Below w.heap.size w (w.alloc (.cells #[.int .i64 m] 3)) := (Below.refl _ _).alloc (Nat.le_refl _) _
  have HB := hide hb
  have HI := hide (IndexFunc_any (w := w.alloc (.cells #[.int .i64 m] 3)) (B := w.heap.size) (mark := m) none 0 0 [] rfl (by decide) (Lk.Src.none _ _) (by simp) (by rw [cell_of_row _ _ 0 _ _ _ (heap_alloc_new w _)]; rfl))
  clear hb
  go_enter Tryd.func31, Tryd.ntmps31
  go_wp2_with fail
  refine (safe_nil _).mono ?_
  rintro e w2 ⟨rfl, hw⟩
  subst hw
  go_wp2_with fail
  refine HI.out.mono ?_
  rintro e w3 ⟨rfl, hb3⟩
  have HB3 := hide (HB.out.trans (hb3.mono HB.out.size))
  clear hb3 HI
  have e1 : ((reach m [] : Nat) : Int) - 1 = -1 := rfl
  rw [e1]
  clear e1
  go_wp2
  go_ret
  exact ⟨rfl, HB3.out⟩
set_option maxRecDepth 100000 in
theorem UpTo_nil (m : Int) : Calls Tryd.prog 15 #[.pointer none, .int .i64 m] w fun e w' => e = .returned (.tuple #[.slice none 0 0, .bool false]) ∧ Below w.heap.size w w' := by
  go_enter Tryd.func15, Tryd.ntmps15
  go_wp2_with fail
  refine (reach_nil w m).mono ?_
  rintro e w2 ⟨rfl, hb2⟩
  have HB2 := hide hb2
  clear hb2
  go_wp2
  go_ret2
  exact ⟨rfl, HB2.out⟩
set_option maxRecDepth 100000 in
theorem Drop_nil (m : Int) : Calls Tryd.prog 18 #[.pointer none, .int .i64 m] w fun e w' => ∃ q, e = .returned (.iface 64 (.pointer (some ⟨q, 0, none⟩))) ∧ SFlt w' (.iface 64 (.pointer (some ⟨q, 0, none⟩))) m ∧ Below w.heap.size w w' := by
  go_enter Tryd.func18, Tryd.ntmps18
  go_wp2_with fail
  refine (reach_nil w m).mono ?_
  rintro e w2 ⟨rfl, hb2⟩
  have HB2 := hide hb2
  have HW := hide (Wrap_real snam m (.iface 48 (.int .i64 8)) w2 (Real.num (by decide)))
  clear hb2
  go_wp2_with fail
  refine HW.out.mono ?_
  rintro e w3 ⟨rfl, hw3⟩
  have HB3 : Hid (Below w.heap.size w w3) := by rw [hw3]; exact HB2.out.alloc HB2.out.size _
  have HF : Hid (SFlt w3 (.iface 64 (.pointer (some ⟨w2.heap.size, 0, none⟩))) m) := by
    rw [hw3]
    exact ⟨_, rfl, Chain.wrap (fs := []) (w := w2) (e := .iface 48 (.int .i64 8)) rfl snam m⟩
  clear hw3 HW
  go_wp2
  go_ret
  exact ⟨_, rfl, HF.out, HB3.out⟩
set_option maxRecDepth 100000 in
theorem Take_nil (r : Rd) : Calls Tryd.prog 10 #[.pointer none, r.val] w fun e w' => e = .returned (.int .i64 0) ∧ Below w.heap.size w w' := by
  obtain ⟨rs, rk, rb, rd, rm⟩ := r
  show Calls Tryd.prog 10 #[.pointer none, .agg #[.int .i64 rs, .int .i64 rk, .int .i64 rb, .string rd, .int .i64 rm]] w _
  go_enter Tryd.func10, Tryd.ntmps10
  go_wp2_with (refine wpList_box_told rfl 30 (.tmp 1) rfl _ rfl ?_)
  intro w1 Hw1
  have HB1 : Hid (Below w.heap.size w w1) := by rw [Hw1.out]; exact (Below.refl _ _).alloc (Nat.le_refl _) _
  clear Hw1
  go_wp2_with fail
  refine (Last_nil w1).mono ?_
  rintro e w2 ⟨rfl, hw⟩
  subst hw
  go_wp2
  go_ret
  exact ⟨rfl, HB1.out⟩
end

set_option maxRecDepth 100000 in
set_option maxHeartbeats 4000000 in
theorem Nil_any (r : Rd) (n : Int) (w : World) (hty : Ety w) (hd : r.d.size ≤ maxLen) : Calls Tryd.prog 4 #[r.val, .int .i64 n] w fun e w' => e = .returned (.bool true) ∧ Below w.heap.size w w' := by
  obtain ⟨rs, rk, rb, rd, rm⟩ := r
  show Calls Tryd.prog 4 #[.agg #[.int .i64 rs, .int .i64 rk, .int .i64 rb, .string rd, .int .i64 rm], .int .i64 n] w _
  have Hty := hide hty
  have hd' : rd.size ≤ 9223372036854775807 := hd
  clear hty hd
  go_enter Tryd.func4, Tryd.ntmps4
  go_wp2_with (refine wpList_box_told rfl 30 (.tmp 0) rfl _ rfl ?_)
  intro w1 Hw1
  have HV := hide (show St w [blkT w.heap.size #[.int .i64 rs, .int .i64 rk, .int .i64 rb, .string rd, .int .i64 rm] 30] w1 by rw [Hw1.out]; exact St.blk_new (St.start w) _ _)
  generalize w.heap.size = B at *
  clear Hw1
  go_wp2_with fail
  refine (awake_any w1).mono ?_
  rintro e w2 ⟨rfl, hb2⟩
  have HV2 := hide (HV.out.below hb2)
  have b3 := (St.blk HV2.out (i := 0) rfl).1 3
  simp only [List.getElem?_toArray, List.getElem?_cons_succ, List.getElem?_cons_zero] at b3
  clear hb2 HV
  by_cases hbig : 100 < rd.size
  · have hbi : (100 : Int) < (rd.size : Int) := by omega
    clear hbig
    go_wp2_with fail
    refine (awake_any w2).mono ?_
    rintro e w3 ⟨rfl, hb3⟩
    have HB := hide (HV2.out.below hb3).bel
    clear hb3
    go_wp2
    go_ret
    exact ⟨rfl, HB.out⟩
  · have hbi : ¬ (100 : Int) < (rd.size : Int) := by omega
    clear hbig
    go_wp2_with fail
    refine (Flush_nil w2).mono ?_
    rintro e w3 ⟨rfl, hw⟩
    subst hw
    go_wp2_with fail
    refine (Crash_nil w2 n).mono ?_
    rintro e w3 ⟨rfl, hw⟩
    subst hw
    go_wp2_with fail
    refine (Last_nil w2).mono ?_
    rintro e w3 ⟨rfl, hw⟩
    subst hw
    go_wp2_with fail
    refine (Dropped_nil w2).mono ?_
    rintro e w3 ⟨rfl, hw⟩
    subst hw
    go_wp2_with fail
    refine (UpTo_nil w2 n).mono ?_
    rintro e w3 ⟨rfl, hb3⟩
    have HV3 := hide (HV2.out.below hb3)
    have hb := (St.blk HV3.out (i := 0) rfl).1
    have d0 := hb 0
    have d1 := hb 1
    have d2 := hb 2
    have d3 := hb 3
    have d4 := hb 4
    simp only [List.getElem?_toArray, List.getElem?_cons_succ, List.getElem?_cons_zero] at d0 d1 d2 d3 d4
    clear hb3 HV2 b3 hb
    go_wp2_with fail
    refine (Take_nil w3 ⟨rs, rk, rb, rd, rm⟩).mono ?_
    rintro e w4 ⟨rfl, hb4⟩
    have HV4 := hide (HV3.out.below hb4)
    clear hb4 HV3 d0 d1 d2 d3 d4
    go_wp2_with fail
    refine (Marks_nil w4).mono ?_
    rintro e w5 ⟨rfl, hb5⟩
    have HV5 := hide (HV4.out.below hb5)
    clear hb5 HV4
    go_wp2_with fail
    refine (Drop_nil w5 n).mono ?_
    rintro e w6 ⟨q, rfl, hf, hb6⟩
    have HV6 := hide (HV5.out.below hb6)
    have HF := hide hf
    clear hb6 hf HV5
    go_wp2_with fail
    refine (Code_sflt (Ety.below Hty.out HV6.out.bel Hty.out.lt) HF.out).mono ?_
    rintro e w7 ⟨rfl, hb7⟩
    have HV7 := hide (HV6.out.below hb7)
    clear hb7 HV6 HF
    go_wp2_with fail
    refine (Cut_nil w7).mono ?_
    rintro e w8 ⟨rfl, hw⟩
    subst hw
    have HB := hide HV7.out.bel
    go_wp2
    go_ret
    exact ⟨rfl, HB.out⟩

end Go.Proofs.YteneacmdfehfnaaDoor.Sg
