/-
  GateOnce at every round and every number of ticks, thawed by whatever: it returns true, and changes nothing that was there. Condition: the library's variable errors.errorType holds what the program's own text lays.
-/
import Derived.Test.YtjholhmgainbfaaDoorGaErr
namespace Go.Proofs.YtjholhmgainbfaaDoor.Ga
open Go.RowKit
open Pk Sm Fa Dk

set_option maxRecDepth 100000 in
set_option maxHeartbeats 4000000 in
theorem Once_any (rd tk : Int) (by_ : Bool) (w : World) (hty : Ety w) (hrd : 0 ≤ rd ∧ rd ≤ 65535) (htk : 0 ≤ tk ∧ tk ≤ 255) :
    Calls Tryd.prog 5 #[.int .u16 rd, .int .u8 tk, .bool by_] w fun e w' => e = .returned (.bool true) ∧ Below w.heap.size w w' := by
  have HE := hide hty
  have Hrd := hide hrd
  have Htk := hide htk
  clear hty hrd htk
  go_enter Tryd.func5, Tryd.ntmps5
  go_wp2_with fail
  refine (awake_any w).mono ?_
  rintro e w1 ⟨rfl, hb1⟩
  have HB1 := hide hb1
  have HE1 := hide (HE.out.below hb1 HE.out.lt)
  clear hb1
  go_wp2_with fail
  refine (GW.start w1).mono ?_
  rintro e w2 ⟨g, rfl, hg⟩
  have HG2 := hide hg
  have HE2 := HE1
  clear hg
  obtain ⟨hrd0, hrd1⟩ := Hrd.out
  obtain ⟨htk0, htk1⟩ := Htk.out
  obtain ⟨m, hm⟩ : ∃ m : Int, tk % 20 = m := ⟨_, rfl⟩
  have hm0 : 0 ≤ m := by omega
  have hm1 : m ≤ 19 := by omega
  have hm2 : tk.tmod 20 = m := by rw [Int.tmod_eq_emod_of_nonneg htk0]; exact hm
  obtain ⟨R, hR⟩ : ∃ R : Int, R = 1 + rd := ⟨_, rfl⟩
  obtain ⟨K, hK⟩ : ∃ K : Nat, (K : Int) = 1 + m := ⟨(1 + m).toNat, by omega⟩
  have hR1 : 1 + rd = R := hR.symm
  have hK1 : 1 + m = (K : Int) := hK.symm
  have hRb : R ≤ 65536 := by omega
  have hR0 : 1 ≤ R := by omega
  have hKb : (K : Int) ≤ 20 := by omega
  have hK0 : (1 : Int) ≤ (K : Int) := by omega
  clear hR hK
  have hy0 : ¬ NoFreeze 0 0 R (K : Int) := by unfold NoFreeze rnd; rw [if_pos rfl]; omega
  have hy1 : ¬ NoFreeze R (K : Int) R (K : Int) := by unfold NoFreeze rnd; rw [if_neg (by omega)]; omega
  have HY0 := hide hy0
  have HY1 := hide hy1
  clear hy0 hy1
  go_wp2_with fail
  refine (HG2.out.freezeY R (K : Int) (by omega) (by omega) HY0.out).mono ?_
  rintro e w3 ⟨rfl, hj3⟩
  have HJ3 := hide hj3
  clear hj3 HG2
  go_wp2_with fail
  refine (HJ3.out.freezeY R (K : Int) (by omega) (by omega) HY1.out).mono ?_
  rintro e w4 ⟨rfl, hj4⟩
  have HJ4 := hide hj4
  clear hj4 HJ3
  cases by_ with
  | true =>
    go_wp2_with fail
    refine (HJ4.out.thaw R).mono ?_
    rintro e w5 (⟨v5, rfl, -, hr5, hj5⟩ | ⟨p5, -, hc5, -, -⟩)
    · obtain ⟨A5, c5, rfl, -, -, -⟩ := hr5.form
      have hj := hide hj5
      clear hr5 hj5 HJ4
      go_wp2_with fail
      refine (hj.out.thaw R).mono ?_
      rintro e w6 (⟨v6, -, hc6, -, -⟩ | ⟨p6, rfl, -, hf6, hj6⟩)
      · exact absurd rfl hc6.1
      have HJ6 := hide hj6
      have HF6 := hide hf6
      have HE6 := hide (HE2.out.below hj6.bel HE2.out.lt)
      clear hf6 hj6 hj
      go_wp2_with fail
      refine (Code_flt HE6.out HF6.out).mono ?_
      rintro e w7 ⟨rfl, hb7⟩
      have HJ7 := hide (HJ6.out.below hb7)
      clear hb7 HF6 HE6 HJ6
      go_wp2_with fail
      refine (HJ7.out.freezeN R (K : Int) (by omega) (by omega) (by unfold NoFreeze rnd; rw [if_pos rfl]; omega)).mono ?_
      rintro e w8 ⟨p8, rfl, hf8, hj8⟩
      have hfz : fzn R (K : Int) = 10 := by unfold fzn; rw [if_neg (by omega)]
      rw [hfz] at hf8
      have HJ8 := hide hj8
      have HF8 := hide hf8
      have HE8 := hide (HE2.out.below hj8.bel HE2.out.lt)
      clear hf8 hj8 HJ7 hfz
      go_wp2_with fail
      refine (Code_flt HE8.out HF8.out).mono ?_
      rintro e w9 ⟨rfl, hb9⟩
      have HJ9 := hide (HJ8.out.below hb9)
      clear hb9 HF8 HE8 HJ8
      have hRp : 1 ≤ R + 1 := by omega
      have HFZ := hide (HJ9.out.freezeY (R + 1) (K : Int) (by omega) (by omega) (by unfold NoFreeze rnd; rw [if_pos rfl]; omega))
      clear HJ9
      go_wp2_with fail
      refine HFZ.out.mono ?_
      rintro e w10 ⟨rfl, hj10⟩
      have HF0 := hide (show Calls Tryd.prog 22 #[.pointer (some ⟨g, 0, none⟩)] w10 fun e w' => e = .returned (.int .i64 (R + 1)) ∧ w10 = w' by have := hj10.frozen; unfold rnd at this; rw [if_neg (by omega)] at this; exact this)
      have HB := hide (HB1.out.trans (hj10.bel.mono HB1.out.size))
      have hq : (R + 1 == R + 1) = true := by simp
      clear hj10 HFZ
      go_wp2_with fail
      refine HF0.out.mono ?_
      rintro e w' ⟨rfl, rfl⟩
      clear HF0
      go_wp2
      go_ret
      exact ⟨rfl, HB.out⟩
    · exfalso
      omega
  | false =>
    go_wp2
    go_loopw [46] (fun j wr => ∃ (i : Nat) (l3 : Int) (Q : List Cl) (m3 : Nat), i ≤ K ∧ j = .int .i64 (i : Int) ∧ Hid (l3 = (K : Int) - (i : Int)) ∧ Hid (GW w1 g R l3 Q m3 wr)) (fun j _ => K - (intOf j).toNat)
    case atStart => exact ⟨0, _, _, _, Nat.zero_le _, rfl, by simp [Hid], HJ4.out⟩
    case round =>
      clear HJ4
      obtain ⟨i, l3, Q3, m3, hi, rfl, hl3, hj⟩ := hrel
      rcases Nat.lt_or_ge i K with hlt | hge
      · have Hlt := hide hlt
        have hii : (i : Int) < (K : Int) := by omega
        have HT := hide (hj.out.tick' (show l3 ≠ 0 by have := hl3.out; omega))
        clear hlt hi hj
        go_wp2_with fail
        refine HT.out.mono ?_
        rintro e w5 ⟨v5, Q5, m5, rfl, hj5⟩
        have HJ5 := hide hj5
        clear hj5 HT
        go_wp2
        go_roundw
        case rel => exact ⟨i + 1, _, _, _, Hlt.out, by go_num, by have := hl3.out; simp only [Hid]; omega, HJ5.out⟩
        case measure => have := Hlt.out; simp [intOf]; omega
      · have hiK : ¬ ((i : Int) < (K : Int)) := by omega
        obtain rfl : l3 = 0 := by have := hl3.out; omega
        clear hge hi hl3
        go_wp2_with fail
        refine (hj.out.thaw R).mono ?_
        rintro e w6 (⟨v6, -, hc6, -, -⟩ | ⟨p6, rfl, -, hf6, hj6⟩)
        · exact absurd rfl hc6.1
        have HJ6 := hide hj6
        have HF6 := hide hf6
        have HE6 := hide (HE2.out.below hj6.bel HE2.out.lt)
        clear hf6 hj6 hj
        go_wp2_with fail
        refine (Code_flt HE6.out HF6.out).mono ?_
        rintro e w7 ⟨rfl, hb7⟩
        have HJ7 := hide (HJ6.out.below hb7)
        clear hb7 HF6 HE6 HJ6
        go_wp2_with fail
        refine (HJ7.out.freezeN R (K : Int) (by omega) (by omega) (by unfold NoFreeze rnd; rw [if_pos rfl]; omega)).mono ?_
        rintro e w8 ⟨p8, rfl, hf8, hj8⟩
        have hfz : fzn R (K : Int) = 10 := by unfold fzn; rw [if_neg (by omega)]
        rw [hfz] at hf8
        have HJ8 := hide hj8
        have HF8 := hide hf8
        have HE8 := hide (HE2.out.below hj8.bel HE2.out.lt)
        clear hf8 hj8 HJ7 hfz
        go_wp2_with fail
        refine (Code_flt HE8.out HF8.out).mono ?_
        rintro e w9 ⟨rfl, hb9⟩
        have HJ9 := hide (HJ8.out.below hb9)
        clear hb9 HF8 HE8 HJ8
        have hRp : 1 ≤ R + 1 := by omega
        have HFZ := hide (HJ9.out.freezeY (R + 1) (K : Int) (by omega) (by omega) (by unfold NoFreeze rnd; rw [if_pos rfl]; omega))
        clear HJ9
        go_wp2_with fail
        refine HFZ.out.mono ?_
        rintro e w10 ⟨rfl, hj10⟩
        have HF0 := hide (show Calls Tryd.prog 22 #[.pointer (some ⟨g, 0, none⟩)] w10 fun e w' => e = .returned (.int .i64 (R + 1)) ∧ w10 = w' by have := hj10.frozen; unfold rnd at this; rw [if_neg (by omega)] at this; exact this)
        have HB := hide (HB1.out.trans (hj10.bel.mono HB1.out.size))
        have hq : (R + 1 == R + 1) = true := by simp
        clear hj10 HFZ
        go_wp2_with fail
        refine HF0.out.mono ?_
        rintro e w' ⟨rfl, rfl⟩
        clear HF0
        go_wp2
        go_ret
        exact ⟨rfl, HB.out⟩

end Go.Proofs.YtjholhmgainbfaaDoor.Ga
