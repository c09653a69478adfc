/-
  The walk of isobarlaw12.StageOnce: it returns true, at every script, every marker and every record; nothing that was there is changed.
-/
import Derived.Test.YteneacmdfehfnaaSgWalk
namespace Go.Proofs.Yteneacmdfehfnaa.Sg
open Go.RowKit
open Pk Dk Wn Lk Rc

abbrev rarr (s k b : Int) (d : ByteArray) (m : Int) : Array Value := #[.int .i64 s, .int .i64 k, .int .i64 b, .string d, .int .i64 m]
set_option maxRecDepth 100000 in
set_option maxHeartbeats 8000000 in
theorem Once_end (A : Option Addr) (n c : Nat) (l : List Oq) (drop rs rk rb : Int) (rd : ByteArray) (rm : Int) (w : World) (hl : l.length = n) (hf : Fits l) (hs : Src w A (ocels l)) (hd : rd.size ≤ maxLen) :
    Calls Try.prog 5 #[.slice A n c, .int .i64 drop, .agg #[.int .i64 rs, .int .i64 rk, .int .i64 rb, .string rd, .int .i64 rm]] w fun e w' => e = .returned (.bool true) ∧ Below w.heap.size w w' := by
  have Hl := hide hl
  have Hf := hide hf
  have Hs := hide hs
  have Hd := hide hd
  have hd' : rd.size ≤ 9223372036854775807 := hd
  clear hl hf hs hd
  go_enter Try.func5, Try.ntmps5
  go_wp2_with (refine wpList_box_told rfl 34 (.tmp 2) rfl _ rfl ?_)
  intro w1 Hw1
  have HV := hide (show St w [blkT w.heap.size (rarr rs rk rb rd rm) 34] w1 by rw [Hw1.out]; exact St.blk_new (St.start w) _ _)
  generalize w.heap.size = B at *
  clear Hw1
  go_wp2_with fail
  refine (awake_any w1).mono ?_
  rintro e w2 ⟨rfl, hb2⟩
  have HV2 := hide (HV.out.below hb2)
  clear hb2 HV
  go_wp2_with fail
  refine (few_any A n c l w2 Hl.out (Hs.out.below HV2.out.bel) Hf.out).mono ?_
  rintro e w2' ⟨⟨B1, rfl, hB1⟩, hw1⟩
  subst hw1
  have HF := hide hB1
  clear hB1
  cases B1 with
  | false =>
    go_wp2_with fail
    refine (awake_any w2).mono ?_
    rintro e w3 ⟨rfl, hb3⟩
    have HB := hide (HV2.out.below hb3).bel
    clear hb3
    go_wp2
    go_ret
    exact ⟨rfl, HB.out⟩
  | true =>
    have b3 := (St.blk HV2.out (i := 0) rfl).1 3
    simp only [List.getElem?_toArray, List.getElem?_cons_succ, List.getElem?_cons_zero] at b3
    by_cases hbig : 100 < rd.size
    · have hbi : (100 : Int) < (rd.size : Int) := by omega
      clear hbig
      go_wp2_with fail
      refine (awake_any w2).mono ?_
      rintro e w3 ⟨rfl, hb3⟩
      have HB := hide (HV2.out.below hb3).bel
      clear hb3
      go_wp2
      go_ret
      exact ⟨rfl, HB.out⟩
    · have hbi : ¬ (100 : Int) < (rd.size : Int) := by omega
      have Hn := hide (show n ≤ 200 by have := (HF.out.yes).1; have := Hl.out; omega)
      clear HF hbig
      go_wp2_with fail
      refine (S_new HV2.out 1).mono ?_
      rintro e w3 ⟨rfl, hst⟩
      have HS := hide (show St w [blkT B (rarr rs rk rb rd rm) 34, stgT w2.heap.size [] 0 0 0] w3 from hst)
      generalize w2.heap.size = p at *
      clear hst HV2 b3 hbi
      go_wp2_with fail
      refine (S_put HS.out (i := 1) rfl A n c l Hl.out Hn.out (by simp) (by omega) Hs.out Hf.out).mono ?_
      rintro e w4 ⟨rfl, M, hM, hst⟩
      have HS3 := hide (show St w [blkT B (rarr rs rk rb rd rm) 34, stgT p M 0 0 0] w4 from hst)
      obtain ⟨k, hk⟩ : ∃ k, M.length = k := ⟨_, rfl⟩
      have Hk := hide hk
      have hkn : k ≤ 200 := by have := Hn.out; omega
      have Hkn := hide hkn
      clear hst HS hM hk hkn
      go_wp2_with fail
      refine (S_flush HS3.out (i := 1) rfl).mono ?_
      rintro e w5 ⟨rfl, hst⟩
      have HS4 := hide (show St w [blkT B (rarr rs rk rb rd rm) 34, stgT p M k 0 0] w5 by rw [← Hk.out]; exact hst)
      have HT := hide (show M.take k = M by rw [← Hk.out]; exact List.take_length)
      clear hst HS3
      obtain ⟨j, hj⟩ : ∃ j, reach drop (M.take k) = j := ⟨_, rfl⟩
      have Hj := hide hj
      have hjk : j ≤ k := by rw [← hj, ← Hk.out]; exact Nat.le_trans (reach_le drop _) (by rw [List.length_take]; omega)
      have Hjk := hide hjk
      clear hj hjk
      go_wp2_with fail
      refine Calls.mono (R := fun e w' => ∃ v mk, e = .returned v ∧ St w [blkT B (rarr rs rk rb rd rm) 34, stgT p (M.drop j) (k - j) j mk] w') ?_ ?_
      · by_cases h0 : j = 0
        · refine (S_drop_none HS4.out (i := 1) rfl drop (by rw [Hj.out]; exact h0)).mono ?_
          rintro e w' ⟨⟨q, rfl, _⟩, hst⟩
          subst h0
          exact ⟨_, 0, rfl, hst⟩
        · refine (S_drop HS4.out (i := 1) rfl drop Hj.out (by omega)).mono ?_
          rintro e w' ⟨rfl, hst⟩
          have h := hst
          rw [Nat.zero_add] at h
          exact ⟨_, drop, rfl, h⟩
      rintro e w6 ⟨v, mk, rfl, hst⟩
      have HS5 := hide hst
      have HL := hide (show (M.drop j).length = k - j by rw [List.length_drop, Hk.out])
      clear hst HS4
      go_wp2_with fail
      refine (S_last HS5.out (i := 1) rfl (t := k) (u := k) (by rw [HL.out]; have := Hjk.out; omega) (by have := Hjk.out; omega)).mono ?_
      rintro e w7 ⟨rfl, hst⟩
      have HS6 := hide hst
      clear hst HS5
      go_wp2_with fail
      refine (S_dropped HS6.out (i := 1) rfl).mono ?_
      rintro e w8 ⟨rfl, hst⟩
      have HS7 := hide hst
      obtain ⟨b0, f0, hlt, hset⟩ := St.blk hst (i := 0) rfl
      have hc0 := b0 0
      have hf0 := f0 0
      have hc1 := b0 1
      have hc2 := b0 2
      have hc3 := b0 3
      have hc4 := b0 4
      simp only [List.getElem?_toArray, List.getElem?_cons_zero, List.getElem?_cons_succ] at hc0 hc1 hc2 hc3 hc4
      obtain ⟨z, hz⟩ : ∃ z : Int, max 0 ((k : Int) - 1) = z := ⟨_, rfl⟩
      have Hz := hide hz
      have hz0 : 0 ≤ z := by omega
      have hz1 : z ≤ 200 := by have := Hkn.out; omega
      have e1 : IntKind.i64.wrap ((k : Int) - 1) = (k : Int) - 1 := wrap_id (by omega) (by omega)
      have e2 : IntKind.i64.wrap (1 + z) = 1 + z := wrap_id (by omega) (by omega)
      have HW := hide (show St w [blkT B (rarr (1 + z) rk rb rd rm) 34, stgT p (M.drop j) (k - j) j mk] (w8.setCell ⟨B, 0, none⟩ (.int .i64 (1 + z))) from hset 0 (.int .i64 (1 + z)))
      clear hst b0 f0 hlt hset HS6
      have hki : (k : Int) ≤ 200 := by have := Hkn.out; omega
      by_cases hk0 : k = 0
      · have hkn : ¬ (0 : Int) < (k : Int) := by omega
        have hkn' : ¬ 0 < k := by omega
        have Hk0 := hide hk0
        clear hk0
        go_wp2_with fail
        generalize World.setCell _ _ _ = w9 at *
        have hz := Hz.out
        go_wp2_with fail
        refine (S_cut HW.out (i := 1) rfl).mono ?_
        rintro e w11 ⟨rfl, hst⟩
        have HS8 := hide hst
        rw [HL.out]
        obtain ⟨d, hd⟩ : ∃ d, k - j = d := ⟨_, rfl⟩
        rw [hd]
        have e3 : (k : Int) - (j : Int) = (d : Int) := by have := Hjk.out; omega
        have e4 : IntKind.i64.wrap (d : Int) = (d : Int) := wrap_id (by omega) (by omega)
        have hji : (j : Int) ≤ 200 := by have := Hjk.out; have := Hkn.out; omega
        clear hst hd hz
        go_wp2_with fail
        refine (S_last HS8.out (i := 1) rfl (t := j) (u := j) (by simp) (by omega)).mono ?_
        rintro e w12 ⟨rfl, hst⟩
        have HS9 := hide hst
        clear hst HS8
        go_wp2_with fail
        refine (S_refuse HS9.out (i := 1) rfl ⟨(j : Int), 2, 0, ⟨#[]⟩, 1⟩ (Nat.zero_le _) (t := j) (by simp) (fun h => by have := h.1; simp only at this; omega)).mono ?_
        rintro e w13 ⟨rfl, hst⟩
        have HS10 := hide hst
        have Hfm := hide (fits_mark (t := j) (m := 1) (by omega) (by decide) (by decide))
        have e5 : IntKind.i64.wrap ((j : Int) + 1) = (j : Int) + 1 := wrap_id (by omega) (by omega)
        clear hst HS9
        go_wp2_with fail
        refine (S_take HS10.out (i := 1) rfl ⟨(j : Int) + 1, 2, 0, ⟨#[]⟩, 1⟩ (Nat.zero_le _) (t := j) (by simp) Hfm.out (by simp)).mono ?_
        rintro e w14 ⟨rfl, hst⟩
        have HB := hide hst.bel
        clear hst HS10
        go_wp2
        go_ret
        exact ⟨rfl, HB.out⟩
      · have hkn : (0 : Int) < (k : Int) := by omega
        have hkn' : 0 < k := by omega
        have ez : 1 + z = (k : Int) := by omega
        rw [ez] at HW e2
        go_wp2_with fail
        generalize World.setCell _ _ _ = w9 at *
        have hz := Hz.out
        refine (S_refuse HW.out (i := 1) rfl ⟨(k : Int), rk, rb, rd, rm⟩ hd' (t := k) (by rw [HL.out]; have := Hjk.out; omega) (fun h => by have := h.1; simp only at this; omega)).mono ?_
        rintro e w10 ⟨rfl, hst⟩
        have HW := hide hst
        clear hst
        go_wp2_with fail
        refine (S_cut HW.out (i := 1) rfl).mono ?_
        rintro e w11 ⟨rfl, hst⟩
        have HS8 := hide hst
        rw [HL.out]
        obtain ⟨d, hd⟩ : ∃ d, k - j = d := ⟨_, rfl⟩
        rw [hd]
        have e3 : (k : Int) - (j : Int) = (d : Int) := by have := Hjk.out; omega
        have e4 : IntKind.i64.wrap (d : Int) = (d : Int) := wrap_id (by omega) (by omega)
        have hji : (j : Int) ≤ 200 := by have := Hjk.out; have := Hkn.out; omega
        clear hst hd hz
        go_wp2_with fail
        refine (S_last HS8.out (i := 1) rfl (t := j) (u := j) (by simp) (by omega)).mono ?_
        rintro e w12 ⟨rfl, hst⟩
        have HS9 := hide hst
        clear hst HS8
        go_wp2_with fail
        refine (S_refuse HS9.out (i := 1) rfl ⟨(j : Int), 2, 0, ⟨#[]⟩, 1⟩ (Nat.zero_le _) (t := j) (by simp) (fun h => by have := h.1; simp only at this; omega)).mono ?_
        rintro e w13 ⟨rfl, hst⟩
        have HS10 := hide hst
        have Hfm := hide (fits_mark (t := j) (m := 1) (by omega) (by decide) (by decide))
        have e5 : IntKind.i64.wrap ((j : Int) + 1) = (j : Int) + 1 := wrap_id (by omega) (by omega)
        clear hst HS9
        go_wp2_with fail
        refine (S_take HS10.out (i := 1) rfl ⟨(j : Int) + 1, 2, 0, ⟨#[]⟩, 1⟩ (Nat.zero_le _) (t := j) (by simp) Hfm.out (by simp)).mono ?_
        rintro e w14 ⟨rfl, hst⟩
        have HB := hide hst.bel
        clear hst HS10
        go_wp2
        go_ret
        exact ⟨rfl, HB.out⟩

end Go.Proofs.Yteneacmdfehfnaa.Sg
