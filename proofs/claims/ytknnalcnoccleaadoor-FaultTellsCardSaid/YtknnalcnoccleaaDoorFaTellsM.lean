/-
  Proved: for every l, code and op the call FaultTells(l, code, op) returns true and changes no argument: an error of any number, wrapped at any places, tells its text, its path, its number, and the outermost place of any name, as the reference says. Condition: the library's variables errors.errorType and the table of powers of ten hold what the program's own text lays.
-/
import Derived.Test.YtknnalcnoccleaaDoorFaTellsL
namespace Go.Proofs.YtknnalcnoccleaaDoor.Fa
open Go.RowKit Go.Deep
open Pk Sm

set_option maxHeartbeats 2000000 in
theorem Tells_in (A : Option Addr) (n c : Nat) (l : List Pl) (code : Int) (op : ByteArray) (w : World) (hty : Ety w) (htab : Tab10 w) (hl : l.length = n) (hp : Pls w w.heap.size A l) (hf : Fit l) (hfew : Few l) (hcode : ¬ code = 0) :
    Calls Tryd.prog 3 #[.slice A n c, .int .i64 code, .string op] w fun e w' => e = .returned (.bool true) ∧ Below w.heap.size w w' := by
  have hn : n ≤ 50 := by rw [← hl]; exact hfew.1
  have hm := methodErrF
  have hmn := methodErrN
  have HA := hide (awake_any w hty)
  have HF := hide fun (w1 : World) (hb : Below w.heap.size w w1) => few_any A n c l w1 hl ((hp.below hb).more hb.size) hf
  have HM := hide fun (w1 : World) (hb : Below w.heap.size w w1) => made_num A n c l code w1 hl hn ((hp.below hb).more hb.size) hcode
  have Hfew := hide hfew
  have Hty := hide hty
  have Htab := hide htab
  have Hl := hide hl
  have Hp := hide hp
  have Hf := hide hf
  have Hn := hide hn
  have hc0 : (code == 0) = false := by simpa using hcode
  have hcc : (code == code) = true := by simp
  clear hty hl hp hf hfew hcode htab hn
  go_enter Tryd.func3, Tryd.ntmps3
  go_wp2_with fail
  refine HA.out.mono ?_
  rintro r w1 ⟨rfl, hb1⟩
  go_wp2_with fail
  refine (HF.out w1 hb1).mono ?_
  rintro r w2 ⟨⟨b, rfl, hb⟩, rfl⟩
  obtain rfl : b = true := hb.2 Hfew.out
  have HB := hide hb1
  have HM2 := hide (HM.out w2 hb1)
  clear hb hb1 HA HF HM
  go_wp2_with fail
  refine HM2.out.mono ?_
  rintro r w3 ⟨e, rfl, hM⟩
  have HB3 := hide (HB.out.trans (hM.2.2.mono HB.out.size))
  obtain ⟨fs, hW3⟩ := hM.wrp Hl.out Hfew.out Hf.out (Htab.out.below HB3.out)
  have HW3 := hide hW3
  have Hfl := hide (hW3.len.trans Hl.out)
  have HFi := hide (First_any fs e _ op n w3 Hfl.out (Hty.out.below HB3.out Hty.out.lt) hW3.chain (Or.inr (Or.inl ⟨code, rfl⟩)) (by have := Hn.out; omega))
  obtain ⟨F1, hF1⟩ : ∃ x, x = (fnd (pls fs) op).1 := ⟨_, rfl⟩
  obtain ⟨F2, hF2⟩ : ∃ x, x = (fnd (pls fs) op).2 := ⟨_, rfl⟩
  rw [← hF1, ← hF2] at HFi
  have hFF : (F2 == F2) = true := by simp
  rw [hW3.laid] at hF1 hF2
  have HF1 := hide hF1
  have HF2 := hide hF2
  clear hM hW3 HM2 hF1 hF2
  go_wp2_with fail
  refine HFi.out.mono ?_
  rintro r w4 ⟨rfl, hb4⟩
  have HB4 := hide (HB3.out.trans (hb4.mono HB3.out.size))
  have HW4 := hide (HW3.out.below hb4)
  have hRF := RFirst_any A n c l op w4 Hl.out Hn.out ((Hp.out.below HB4.out).more HB4.out.size)
  rw [← HF1.out, ← HF2.out] at hRF
  have HRF := hide hRF
  clear hb4 HFi hRF HW3
  go_wp2_with fail
  refine HRF.out.mono ?_
  rintro r w5 ⟨rfl, rfl⟩
  clear HRF
  obtain ⟨S, hS⟩ : ∃ S, S = str (pth fs ++ word code) := ⟨_, rfl⟩
  have HS := hide hS
  have HS2 := hide (show S = str (pthP l.reverse ++ word code) by rw [hS, pth_pls, HW4.out.laid])
  have hrest : ∀ w6, Below w5.heap.size w5 w6 → Hid (Calls Tryd.prog 17 #[.slice A n c, .int .i64 code] w6 fun r w' => r = .returned (.string S) ∧ Below w6.heap.size w6 w') := fun w6 hb6 => by
    have hb := HB4.out.trans (hb6.mono HB4.out.size)
    rw [HS2.out]
    exact RText_any A n c l code w6 Hl.out Hn.out ((Hp.out.below hb).more hb.size) (few_good Hfew.out Hf.out)
  have HRT := hide hrest
  have hErr : Hid (∀ p, e = .iface 41 (.pointer (some ⟨p, 0, none⟩)) → Calls Tryd.prog 25 #[.pointer (some ⟨p, 0, none⟩)] w5 fun r w' => r = .returned (.string S) ∧ Below w5.heap.size w5 w') := fun p hp => by
    rw [HS.out]
    have hch := HW4.out.chain
    rw [hp] at hch
    exact Error_any fs p _ (word code) n w5 Hfl.out (Hty.out.below HB4.out Hty.out.lt) hch (Or.inr (Or.inl ⟨code, rfl, rfl⟩)) HW4.out.nice (by have := Hn.out; omega) (by have := word_le code; omega)
  clear hS hrest
  cases fs with
  | nil =>
    obtain rfl := HW4.out.chain
    have HE := hide (Word_any code w5)
    have hSW : S = str (word code) := HS.out
    rw [← hSW] at HE
    clear hSW
    go_wp2_with fail
    refine HE.out.mono ?_
    rintro r w6 ⟨rfl, hb6⟩
    have HB6 := hide (HB4.out.trans (hb6.mono HB4.out.size))
    have HW6 := hide (HW4.out.below hb6)
    have HRT6 := HRT.out w6 hb6
    clear hb6 HRT hErr
    go_wp2_with fail
    refine HRT6.out.mono ?_
    rintro r w7 ⟨rfl, hb7⟩
    have HB7 := hide (HB6.out.trans (hb7.mono HB6.out.size))
    have HW7 := hide (HW6.out.below hb7)
    have HP := hide (Path_any [] _ _ n w7 Hfl.out (Hty.out.below HB7.out Hty.out.lt) HW7.out.chain (Or.inr (Or.inl ⟨code, rfl⟩)) HW7.out.nice (by have := Hn.out; omega))
    clear hb7 HRT6
    go_wp2_with fail
    refine HP.out.mono ?_
    rintro r w8 ⟨A8, c8, rfl, _, _, hv8, hb8⟩
    have HB8 := hide (HB7.out.trans (hb8.mono HB7.out.size))
    have HW8 := hide (HW7.out.below hb8)
    rw [HW8.out.laid] at hv8
    have HV8 := hide hv8
    have HRP := hide (RPath_any A n c l w8 Hl.out Hn.out ((Hp.out.below HB8.out).more HB8.out.size) (few_good Hfew.out Hf.out))
    clear hb8 hv8 HP
    go_wp2_with fail
    refine HRP.out.mono ?_
    rintro r w9 ⟨A9, c9, rfl, _, _, hv9, hb9⟩
    have HB9 := hide (HB8.out.trans (hb9.mono HB8.out.size))
    have HW9 := hide (HW8.out.below hb9)
    have hv8' := HV8.out.keep hb9
    rw [plcs_strs] at hv8' hv9
    have HSm := hide (Same_yes A8 A9 n c8 c9 (l.reverse.map fun q => str (plc q.1 q.2)) w9 (by rw [List.length_map, List.length_reverse]; exact Hl.out) (by have := Hn.out; omega) hv8' hv9)
    clear hb9 hv8' hv9 HRP
    go_wp2_with fail
    refine HSm.out.mono ?_
    rintro r w10 ⟨rfl, hb10⟩
    have HB10 := hide (HB9.out.trans (hb10.mono HB9.out.size))
    have HW10 := hide (HW9.out.below hb10)
    have HC := hide (Code_any [] _ _ code w10 (Hty.out.below HB10.out Hty.out.lt) HW10.out.chain (Or.inr (Or.inl rfl)) (by rw [Hfl.out]; have := Hn.out; omega))
    clear hb10 HSm
    go_wp2_with fail
    refine HC.out.mono ?_
    rintro r w11 ⟨rfl, hb11⟩
    have HB11 := hide (HB10.out.trans (hb11.mono HB10.out.size))
    clear hb11 HC
    go_wp2
    go_ret
    exact ⟨rfl, HB11.out⟩
  | cons q r =>
    obtain ⟨p, o', m⟩ := q
    obtain rfl := HW4.out.chain.1
    have HE := hide (hErr.out p rfl)
    go_wp2_with fail
    refine HE.out.mono ?_
    rintro r w6 ⟨rfl, hb6⟩
    have HB6 := hide (HB4.out.trans (hb6.mono HB4.out.size))
    have HW6 := hide (HW4.out.below hb6)
    have HRT6 := HRT.out w6 hb6
    clear hb6 HRT hErr
    go_wp2_with fail
    refine HRT6.out.mono ?_
    rintro r w7 ⟨rfl, hb7⟩
    have HB7 := hide (HB6.out.trans (hb7.mono HB6.out.size))
    have HW7 := hide (HW6.out.below hb7)
    have HP := hide (Path_any _ _ _ n w7 Hfl.out (Hty.out.below HB7.out Hty.out.lt) HW7.out.chain (Or.inr (Or.inl ⟨code, rfl⟩)) HW7.out.nice (by have := Hn.out; omega))
    clear hb7 HRT6
    go_wp2_with fail
    refine HP.out.mono ?_
    rintro r w8 ⟨A8, c8, rfl, _, _, hv8, hb8⟩
    have HB8 := hide (HB7.out.trans (hb8.mono HB7.out.size))
    have HW8 := hide (HW7.out.below hb8)
    rw [HW8.out.laid] at hv8
    have HV8 := hide hv8
    have HRP := hide (RPath_any A n c l w8 Hl.out Hn.out ((Hp.out.below HB8.out).more HB8.out.size) (few_good Hfew.out Hf.out))
    clear hb8 hv8 HP
    go_wp2_with fail
    refine HRP.out.mono ?_
    rintro r w9 ⟨A9, c9, rfl, _, _, hv9, hb9⟩
    have HB9 := hide (HB8.out.trans (hb9.mono HB8.out.size))
    have HW9 := hide (HW8.out.below hb9)
    have hv8' := HV8.out.keep hb9
    rw [plcs_strs] at hv8' hv9
    have HSm := hide (Same_yes A8 A9 n c8 c9 (l.reverse.map fun q => str (plc q.1 q.2)) w9 (by rw [List.length_map, List.length_reverse]; exact Hl.out) (by have := Hn.out; omega) hv8' hv9)
    clear hb9 hv8' hv9 HRP
    go_wp2_with fail
    refine HSm.out.mono ?_
    rintro r w10 ⟨rfl, hb10⟩
    have HB10 := hide (HB9.out.trans (hb10.mono HB9.out.size))
    have HW10 := hide (HW9.out.below hb10)
    have HC := hide (Code_any _ _ _ code w10 (Hty.out.below HB10.out Hty.out.lt) HW10.out.chain (Or.inr (Or.inl rfl)) (by rw [Hfl.out]; have := Hn.out; omega))
    clear hb10 HSm
    go_wp2_with fail
    refine HC.out.mono ?_
    rintro r w11 ⟨rfl, hb11⟩
    have HB11 := hide (HB10.out.trans (hb11.mono HB10.out.size))
    clear hb11 HC
    go_wp2
    go_ret
    exact ⟨rfl, HB11.out⟩

theorem Tells_walk (A : Option Addr) (n c : Nat) (l : List Pl) (code : Int) (op : ByteArray) (w : World) (hty : Ety w) (htab : Tab10 w) (hl : l.length = n) (hp : Pls w w.heap.size A l) (hf : Fit l) (_ : op.size ≤ maxLen) :
    Calls Tryd.prog 3 #[.slice A n c, .int .i64 code, .string op] w fun e w' => e = .returned (.bool true) ∧ Below w.heap.size w w' := by
  by_cases hfew : Few l
  · by_cases hc : code = 0
    · subst hc
      exact Tells_zero A n c l op w hty hl hp hf hfew
    · exact Tells_in A n c l code op w hty htab hl hp hf hfew hc
  · exact Tells_out A n c l code op w hty hl hp hf hfew

end Go.Proofs.YtknnalcnoccleaaDoor.Fa
