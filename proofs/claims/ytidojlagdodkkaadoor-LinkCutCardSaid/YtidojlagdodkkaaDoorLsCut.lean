/-
  LinkCut at every list of texts and every number: it returns true, and changes nothing that was there. Condition: the library's variable errors.errorType holds what the program's own text lays.
-/
import Derived.BigQuiet
import Derived.Test.YtidojlagdodkkaaDoorLkErrD
import Derived.Test.YtidojlagdodkkaaDoorLkOp
import Derived.Test.YtidojlagdodkkaaDoorLkSt
import Derived.Test.YtidojlagdodkkaaDoorLiAwake
import Derived.Test.YtidojlagdodkkaaDoorLsPlay
namespace Go.Proofs.YtidojlagdodkkaaDoor.Ls
open Go.RowKit
open Pk Sm Fa Dk Wn Lk

theorem cap_nat {n : Nat} (h : n ≤ 200) : cap (n : Int) = n := by unfold cap; omega
set_option maxRecDepth 100000 in
set_option maxHeartbeats 8000000 in
theorem Cut10_any (A : Option Addr) (n c : Nat) (l : List ByteArray) (d : Int) (w : World) (hty : Ety w) (hl : l.length = n) (hs : Src w A (texts l)) :
    Calls Tryd.prog 6 #[.slice A n c, .int .i64 d] w fun e w' => e = .returned (.bool true) ∧ Below w.heap.size w w' := by
  have HE := hide hty
  have Hl := hide hl
  have Hs := hide hs
  clear hty hl hs
  go_enter Tryd.func6, Tryd.ntmps6
  go_wp2_with fail
  refine (Li.awake_any w).mono ?_
  rintro e w1 ⟨rfl, hb⟩
  have HS := hide ((St.start w).below hb)
  clear hb
  by_cases hn : 200 < n
  · have hni : (200 : Int) < (n : Int) := by omega
    go_wp2_with fail
    refine (Li.awake_any w1).mono ?_
    rintro e w2 ⟨rfl, hb2⟩
    have HB2 := hide (HS.out.below hb2).bel
    clear hb2
    go_wp2
    go_ret
    exact ⟨rfl, HB2.out⟩
  have hni : ¬ (200 : Int) < (n : Int) := by omega
  have hni2 : (n : Int) ≤ 200 := by omega
  have Hn := hide (show n ≤ 200 by omega)
  clear hn
  go_wp2_with fail
  refine (New_st HS.out (n : Int)).mono ?_
  rintro e w2 ⟨p, rfl, HS2⟩
  rw [cap_nat Hn.out] at HS2
  clear HS
  go_wp2_with fail
  go_loopw [25] (fun j wr => ∃ (i : Nat) (C : Bool), i ≤ n ∧ j = .int .i64 (i : Int) ∧ Hid (St w [lnkT p (l.take i) n C] wr)) (fun j _ => n - (intOf j).toNat)
  case atStart => exact ⟨0, false, Nat.zero_le _, rfl, HS2⟩
  case round =>
    clear HS2
    obtain ⟨i, C, hin, rfl, HS⟩ := hrel
    rcases Nat.lt_or_ge i n with hlt | hge
    · have Hlt := hide hlt
      have hii : (i : Int) < (n : Int) := by omega
      obtain ⟨s, hsi⟩ : ∃ s, l[i]? = some s := ⟨_, List.getElem?_eq_getElem (by rw [Hl.out]; exact hlt)⟩
      have HT : Hid (l.take (i + 1) = l.take i ++ [s]) := by show _ = _; rw [List.take_add_one, hsi]; rfl
      obtain ⟨g, o, rfl, hgl, c0⟩ := Src.text (Hs.out.below HS.out.bel) hsi
      have hpar : Int.tmod (i : Int) 2 = ((i % 2 : Nat) : Int) := by rw [Int.tmod_eq_emod_of_nonneg (by omega)]; rfl
      have HSr := hide (Hs.out.below HS.out.bel)
      have hiw : IntKind.i64.wrap ((i % 2 : Nat) : Int) = ((i % 2 : Nat) : Int) := wrap_id (by omega) (by omega)
      obtain ⟨r, hr⟩ : ∃ r, i % 2 = r := ⟨_, rfl⟩
      rw [hr] at hpar hiw
      have hr2 : r < 2 := by omega
      have HI := hide hsi
      clear hlt hin hsi hr c0
      go_wp2_with fail
      refine (Cut_st HS.out (i := 0) rfl _).mono ?_
      rintro e w3 ⟨rfl, HS3⟩
      obtain ⟨b, hb⟩ : ∃ b : Bool, ((r : Int) == 0) = b := ⟨_, rfl⟩
      have HS4 : Hid (St w [lnkT p (l.take i) n ((r : Int) == 0)] w3) := HS3.out
      obtain ⟨g2, o2, hA2, -, c0⟩ := Src.text (Hs.out.below HS4.out.bel) HI.out
      simp only [Option.some.injEq, Addr.mk.injEq, and_true] at hA2
      obtain ⟨rfl, rfl⟩ := hA2
      clear HS HS3 hgl hb
      go_wp2_with fail
      refine (Send_room HS4.out (i := 0) rfl s (by rw [List.length_take, Hl.out]; have := Hlt.out; omega)).mono ?_
      rintro e w5 ⟨rfl, HS5⟩
      have HS6 : Hid (St w [lnkT p (l.take (i + 1)) n ((r : Int) == 0)] w5) := by rw [HT.out]; exact HS5.out
      clear HS4 HS5
      go_wp2
      go_roundw
      case rel => exact ⟨i + 1, _, Hlt.out, by go_num, HS6⟩
      case measure => have := Hlt.out; simp [intOf]; omega
    · obtain rfl : i = n := by omega
      have HS1 : Hid (St w [lnkT p l i C] wr) := by have := HS.out; rw [List.take_of_length_le (by rw [Hl.out]; exact Nat.le_refl _)] at this; exact this
      clear HS hge hin
      go_wp2_with fail
      refine (Cut_st HS1.out (i := 0) rfl true).mono ?_
      rintro e w6 ⟨rfl, HS2⟩
      have HS3 : Hid (St w [lnkT p l i true] w6) := HS2.out
      clear HS1 HS2
      go_wp2_with fail
      refine (Deliver_cut_st HS3.out (i := 0) rfl d).mono ?_
      rintro e w7 ⟨q, rfl, HF⟩
      have HS4 := hide (HS3.out.below HF.out.2)
      have HF4 := hide HF.out.1
      clear HF HS3
      go_wp2_with fail
      refine (Code_flt (HE.out.below HS4.out.bel HE.out.lt) HF4.out).mono ?_
      rintro e w8 ⟨rfl, hb⟩
      have HS5 := hide (HS4.out.below hb)
      clear hb HS4 HF4
      go_wp2_with fail
      refine (Len_st HS5.out (i := 0) rfl).mono ?_
      rintro e w9 ⟨rfl, hb⟩
      rw [Hl.out]
      have HS6 := hide (HS5.out.below hb)
      clear hb HS5
      go_wp2_with fail
      refine (Cut_st HS6.out (i := 0) rfl false).mono ?_
      rintro e w10 ⟨rfl, HS7⟩
      have HS8 : Hid (St w [lnkT p l i false] w10) := HS7.out
      clear HS6 HS7
      go_wp2_with fail
      go_loopw [63] (fun j wr => ∃ (k : Nat), k ≤ i ∧ j = .int .i64 (k : Int) ∧ Hid (St w [lnkT p (l.drop k) i false] wr)) (fun j _ => i - (intOf j).toNat)
      case atStart => exact ⟨0, Nat.zero_le _, rfl, by have := HS8.out; exact this⟩
      case round =>
        clear HS8
        obtain ⟨k, hki, rfl, HS⟩ := hrel
        rcases Nat.lt_or_ge k i with hlt | hge
        · have Hlt := hide hlt
          have hkii : (k : Int) < (i : Int) := by omega
          obtain ⟨s, hsi⟩ : ∃ s, l[k]? = some s := ⟨_, List.getElem?_eq_getElem (by rw [Hl.out]; exact hlt)⟩
          obtain ⟨g, o, rfl, hgl, c0⟩ := Src.text (Hs.out.below HS.out.bel) hsi
          have HZ : Hid ((l.drop k)[0]? = some s) := by show _ = _; rw [List.getElem?_drop]; exact hsi
          have HX : Hid ((l.drop k).eraseIdx 0 = l.drop (k + 1)) := by show _ = _; rw [List.eraseIdx_zero, List.tail_drop]
          have HZi := hide hsi
          clear hlt hki hsi hgl c0
          go_wp2_with fail
          refine (Deliver_at HS.out (i := 0) rfl 0 s HZ.out).mono ?_
          rintro e w8 ⟨rfl, HS4⟩
          have HS5 : Hid (St w [lnkT p (l.drop (k + 1)) i false] w8) := by rw [← HX.out]; exact HS4.out
          obtain ⟨g2, o2, hA2, -, c0⟩ := Src.text (Hs.out.below HS5.out.bel) HZi.out
          simp only [Option.some.injEq, Addr.mk.injEq, and_true] at hA2
          obtain ⟨rfl, rfl⟩ := hA2
          clear HS HS4
          go_wp2
          go_roundw
          case rel => exact ⟨k + 1, Hlt.out, by go_num, HS5⟩
          case measure => have := Hlt.out; simp [intOf]; omega
        · obtain rfl : k = i := by omega
          have HB9 := hide HS.out.bel
          clear HS hge hki
          go_wp2
          go_ret
          exact ⟨rfl, HB9.out⟩

end Go.Proofs.YtidojlagdodkkaaDoor.Ls
