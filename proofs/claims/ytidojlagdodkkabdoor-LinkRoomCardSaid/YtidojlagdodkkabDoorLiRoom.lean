/-
  LinkRoom at every number, with a drop or without: it returns true, and changes nothing that was there. Condition: the library's variable errors.errorType holds what the program's own text lays.
-/
import Derived.Test.YtidojlagdodkkabDoorLkErrD
import Derived.Test.YtidojlagdodkkabDoorLkOp
import Derived.Test.YtidojlagdodkkabDoorLkSt
import Derived.Test.YtidojlagdodkkabDoorLiAwake
namespace Go.Proofs.YtidojlagdodkkabDoor.Li
open Go.RowKit
open Pk Sm Fa Dk Wn Lk

def rng (i : Nat) : List Int := (List.range i).map fun j : Nat => (j : Int)
theorem rng_len (i : Nat) : (rng i).length = i := by simp [rng]
theorem rng_succ (i : Nat) : rng (i + 1) = rng i ++ [(i : Int)] := by simp [rng, List.range_succ]
theorem rng_0 {i : Nat} (h : 0 < i) : (rng i)[0]? = some 0 := by simp [rng, h]
set_option maxRecDepth 100000 in
set_option maxHeartbeats 8000000 in
theorem Room_any (r : Int) (drop : Bool) (w : World) (hty : Ety w) :
    Calls Tryd.prog 3 #[.int .i64 r, .bool drop] w fun e w' => e = .returned (.bool true) ∧ Below w.heap.size w w' := by
  have HE := hide hty
  clear hty
  obtain ⟨n, hn⟩ : ∃ n, cap r = n := ⟨_, rfl⟩
  have hmm : max 0 (min r 4096) = (n : Int) := by rw [← hn]; unfold cap; omega
  have Hn := hide hn
  have hn4 : n ≤ 4096 := by rw [← hn]; exact cap_le r
  have hn4i : (n : Int) ≤ 4096 := by omega
  clear hn
  go_enter Tryd.func3, Tryd.ntmps3
  go_wp2_with fail
  refine (awake_any w).mono ?_
  rintro e w1 ⟨rfl, hb⟩
  have HS := hide ((St.start w).below hb)
  clear hb
  go_wp2_with fail
  refine (New_st HS.out r).mono ?_
  rintro e w2 ⟨p, rfl, HS2⟩
  rw [Hn.out] at HS2
  clear HS
  go_wp2_with fail
  go_loopw [18] (fun j wr => ∃ (i : Nat), i ≤ n ∧ j = .int .i64 (i : Int) ∧ Hid (St w [lnkT p (rng i) n false] wr)) (fun j _ => n - (intOf j).toNat)
  case atStart => exact ⟨0, Nat.zero_le _, rfl, HS2⟩
  case round =>
    clear HS2
    obtain ⟨i, hin, rfl, HS⟩ := hrel
    rcases Nat.lt_or_ge i n with hlt | hge
    · have Hlt := hide hlt
      have hii : (i : Int) < (n : Int) := by omega
      clear hin hlt
      go_wp2_with fail
      refine (Send_room HS.out (i := 0) rfl (i : Int) (by rw [rng_len]; exact Hlt.out)).mono ?_
      rintro e w5 ⟨rfl, HS5⟩
      have HS6 : Hid (St w [lnkT p (rng (i + 1)) n false] w5) := by rw [rng_succ]; exact HS5.out
      clear HS HS5
      go_wp2
      go_roundw
      case rel => exact ⟨i + 1, Hlt.out, by go_num, HS6⟩
      case measure => have := Hlt.out; simp [intOf]; omega
    · obtain rfl : i = n := by omega
      clear hge hin
      go_wp2_with fail
      refine (Send_none HS.out (i := 0) rfl 0 (rng_len i)).mono ?_
      rintro e w6 ⟨q, rfl, HF⟩
      have S1 := hide (HS.out.below HF.out.2)
      have HFL := hide HF.out.1
      clear HF HS
      go_wp2_with fail
      refine (Code_flt (HE.out.below S1.out.bel HE.out.lt) HFL.out).mono ?_
      rintro e uS2 ⟨rfl, hb⟩
      have S2 := hide (S1.out.below hb)
      clear hb HFL S1
      go_wp2_with fail
      refine (Len_st S2.out (i := 0) rfl).mono ?_
      rintro e w8 ⟨rfl, hb⟩
      rw [rng_len]
      have S3 := hide (S2.out.below hb)
      clear hb S2
      by_cases h0 : i = 0
      · subst h0
        go_wp2_with fail
        refine (Double_none_st S3.out (i := 0) rfl 0 (Or.inr (by rw [rng_len]; decide))).mono ?_
        rintro e w9 ⟨q, rfl, HF⟩
        have S4 := hide (S3.out.below HF.out.2)
        have HFL := hide HF.out.1
        clear HF S3
        go_wp2_with fail
        refine (Code_flt (HE.out.below S4.out.bel HE.out.lt) HFL.out).mono ?_
        rintro e uS5 ⟨rfl, hb⟩
        have S5 := hide (S4.out.below hb)
        clear hb HFL S4
        go_wp2
        go_ret
        exact ⟨rfl, S5.out.bel⟩
      · have h0b : ((i : Int) == 0) = false := by simpa using h0
        have h0i : ¬ (i : Int) = 0 := by omega
        obtain ⟨m, hm⟩ : ∃ m, i = m + 1 := ⟨i - 1, by omega⟩
        have hmi : (i : Int) - 1 = (m : Int) := by omega
        have hmw : IntKind.i64.wrap (m : Int) = (m : Int) := wrap_id (by omega) (by omega)
        have Hm := hide hm
        have H0 := hide (show 0 < i by omega)
        clear hm
        go_wp2_with fail
        refine (Double_full_st S3.out (i := 0) rfl m (by rw [rng_len, Hm.out]; omega) (rng_len i)).mono ?_
        rintro e w9 ⟨q, rfl, HF⟩
        have S4 := hide (S3.out.below HF.out.2)
        have HFL := hide HF.out.1
        clear HF S3
        go_wp2_with fail
        refine (Code_flt (HE.out.below S4.out.bel HE.out.lt) HFL.out).mono ?_
        rintro e uS5 ⟨rfl, hb⟩
        have S5 := hide (S4.out.below hb)
        clear hb HFL S4
        have hlen : ((rng i).eraseIdx 0).length = m := by rw [List.length_eraseIdx_of_lt (by rw [rng_len]; exact H0.out), rng_len, Hm.out]; rfl
        have HL := hide hlen
        clear hlen
        cases drop with
        | true =>
          go_wp2_with fail
          refine (Drop_at S5.out (i := 0) rfl 0 (by rw [rng_len]; exact H0.out)).mono ?_
          rintro e w10 ⟨rfl, S6⟩
          clear S5
          go_wp2_with fail
          refine (Len_st S6.out (i := 0) rfl).mono ?_
          rintro e w11 ⟨rfl, hb⟩
          rw [HL.out]
          have S7 := hide (S6.out.below hb)
          clear hb S6
          go_wp2_with fail
          refine (Send_room S7.out (i := 0) rfl 9 (by rw [HL.out, Hm.out]; omega)).mono ?_
          rintro e w12 ⟨rfl, S8⟩
          clear S7
          go_wp2_with fail
          refine (Len_st S8.out (i := 0) rfl).mono ?_
          rintro e w13 ⟨rfl, hb⟩
          rw [List.length_append, HL.out, show m + [(9 : Int)].length = i from Hm.out.symm]
          have S9 := hide (S8.out.below hb)
          clear hb S8
          go_wp2
          go_ret
          exact ⟨rfl, S9.out.bel⟩
        | false =>
          go_wp2_with fail
          refine (Deliver_at S5.out (i := 0) rfl 0 0 (rng_0 H0.out)).mono ?_
          rintro e w10 ⟨rfl, S6⟩
          clear S5
          go_wp2_with fail
          refine (Len_st S6.out (i := 0) rfl).mono ?_
          rintro e w11 ⟨rfl, hb⟩
          rw [HL.out]
          have S7 := hide (S6.out.below hb)
          clear hb S6
          go_wp2_with fail
          refine (Send_room S7.out (i := 0) rfl 9 (by rw [HL.out, Hm.out]; omega)).mono ?_
          rintro e w12 ⟨rfl, S8⟩
          clear S7
          go_wp2_with fail
          refine (Len_st S8.out (i := 0) rfl).mono ?_
          rintro e w13 ⟨rfl, hb⟩
          rw [List.length_append, HL.out, show m + [(9 : Int)].length = i from Hm.out.symm]
          have S9 := hide (S8.out.below hb)
          clear hb S8
          go_wp2
          go_ret
          exact ⟨rfl, S9.out.bel⟩

end Go.Proofs.YtidojlagdodkkabDoor.Li
