/-
  The contracts of isVolume, and of has, with, without and list of a set. Nothing that was there is changed.
-/
import Derived.Test.YthoflpjmdhabmaaDoorMbMem
namespace Go.Proofs.YthoflpjmdhabmaaDoor.Mb
open Go.RowKit
open Pk Dk Wn Lk

theorem nat64 {n : Nat} (h : n < 9223372036854775808) : (BitVec.ofInt 64 (n : Int)).toNat = n := by
  rw [BitVec.ofInt_natCast, BitVec.toNat_ofNat]
  exact Nat.mod_eq_of_lt (by omega)
theorem bits_and (a b : Nat) (ha : a < 9223372036854775808) (hb : b < 9223372036854775808) : bits .and .i64 (a : Int) (b : Int) = ((a &&& b : Nat) : Int) := by
  have hx : a &&& b ≤ a := Nat.and_le_left
  show IntKind.i64.wrap ((BitVec.ofInt 64 (a : Int) &&& BitVec.ofInt 64 (b : Int)).toNat : Int) = _
  rw [BitVec.toNat_and, nat64 ha, nat64 hb, IntKind.wrap_i64]
  omega
theorem bits_or (a b : Nat) (ha : a < 9223372036854775808) (hb : b < 9223372036854775808) : bits .or .i64 (a : Int) (b : Int) = ((a ||| b : Nat) : Int) := by
  have hx : a ||| b < 2 ^ 63 := Nat.or_lt_two_pow (by omega) (by omega)
  show IntKind.i64.wrap ((BitVec.ofInt 64 (a : Int) ||| BitVec.ofInt 64 (b : Int)).toNat : Int) = _
  rw [BitVec.toNat_or, nat64 ha, nat64 hb, IntKind.wrap_i64]
  omega
theorem bits_andNot (a b : Nat) (ha : a < 9223372036854775808) (hb : b < 9223372036854775808) : bits .andNot .i64 (a : Int) (b : Int) = ((a ^^^ (a &&& b) : Nat) : Int) := by
  have hx : a ^^^ (a &&& b) < 2 ^ 63 := Nat.xor_lt_two_pow (by omega) (Nat.lt_of_le_of_lt Nat.and_le_left (by omega))
  show IntKind.i64.wrap ((BitVec.ofInt 64 (a : Int) &&& ~~~BitVec.ofInt 64 (b : Int)).toNat : Int) = _
  have he : BitVec.ofInt 64 (a : Int) &&& ~~~BitVec.ofInt 64 (b : Int) = BitVec.ofInt 64 (a : Int) ^^^ (BitVec.ofInt 64 (a : Int) &&& BitVec.ofInt 64 (b : Int)) := by
    apply BitVec.eq_of_getLsbD_eq
    intro i hi
    simp only [BitVec.getLsbD_and, BitVec.getLsbD_xor, BitVec.getLsbD_not, hi, decide_true, Bool.true_and]
    cases (BitVec.ofInt 64 (a : Int)).getLsbD i <;> cases (BitVec.ofInt 64 (b : Int)).getLsbD i <;> rfl
  rw [he, BitVec.toNat_xor, BitVec.toNat_and, nat64 ha, nat64 hb, IntKind.wrap_i64]
  omega
theorem four {v : Nat} (h : v < 4) : v = 0 ∨ v = 1 ∨ v = 2 ∨ v = 3 := by omega
theorem and_two (s v : Nat) : s &&& 2 ^ v = if bt s v then 2 ^ v else 0 := Nat.eq_of_testBit_eq fun i => by
  unfold bt
  rw [Nat.testBit_and, Nat.testBit_two_pow]
  by_cases hi : v = i
  · subst hi
    cases hb : s.testBit v <;> simp
  · cases hb : s.testBit v <;> simp [hi]
theorem two_wrap {v : Nat} (hv : v < 4) : wrap64 (2 ^ v : Int) = ((2 ^ v : Nat) : Int) := by
  have h := two_lt (n := 4) hv
  have e : (2 ^ v : Int) = ((2 ^ v : Nat) : Int) := by rw [Int.natCast_pow]; rfl
  rw [e]
  generalize 2 ^ v = k at h
  exact IntWalk.wrap64_in _ ⟨by omega, by omega⟩

section
variable (s v : Nat) (w : World)
set_option maxRecDepth 100000 in
theorem has_any (hs : s < 1152921504606846976) (hv : v < 4) : Calls Tryd.prog 29 #[.int .i64 (s : Int), .int .i64 (v : Int)] w fun e w' => e = .returned (.bool (bt s v)) ∧ w = w' := by
  have h4 := two_lt (n := 4) hv
  have HA : Hid ((bits .and .i64 (s : Int) (wrap64 (2 ^ v)) != 0) = bt s v) := by
    have h0 : 0 < 2 ^ v := Nat.two_pow_pos v
    rw [two_wrap hv, bits_and s (2 ^ v) (by omega) (by omega), and_two]
    generalize 2 ^ v = k at h0
    cases bt s v
    · rfl
    · simp [Hid]
      omega
  clear hs h4
  go_enter Tryd.func29, Tryd.ntmps29
  go_wp2
  rw [HA.out]
  go_ret
  exact ⟨rfl, rfl⟩
set_option maxRecDepth 100000 in
theorem with_any (hs : s < 1152921504606846976) (hv : v < 4) : Calls Tryd.prog 30 #[.int .i64 (s : Int), .int .i64 (v : Int)] w fun e w' => e = .returned (.int .i64 (wit s v : Int)) ∧ w = w' := by
  have h4 := two_lt (n := 4) hv
  have HA : Hid (bits .or .i64 (s : Int) (wrap64 (2 ^ v)) = (wit s v : Int)) := by
    rw [two_wrap hv, bits_or s (2 ^ v) (by omega) (by omega)]
    rfl
  clear hs h4
  go_enter Tryd.func30, Tryd.ntmps30
  go_wp2
  rw [HA.out]
  go_ret
  exact ⟨rfl, rfl⟩
set_option maxRecDepth 100000 in
theorem without_any (hs : s < 1152921504606846976) (hv : v < 4) : Calls Tryd.prog 50 #[.int .i64 (s : Int), .int .i64 (v : Int)] w fun e w' => e = .returned (.int .i64 (wout s v : Int)) ∧ w = w' := by
  have h4 := two_lt (n := 4) hv
  have HA : Hid (bits .andNot .i64 (s : Int) (wrap64 (2 ^ v)) = (wout s v : Int)) := by
    rw [two_wrap hv, bits_andNot s (2 ^ v) (by omega) (by omega)]
    rfl
  clear hs h4
  go_enter Tryd.func50, Tryd.ntmps50
  go_wp2
  rw [HA.out]
  go_ret
  exact ⟨rfl, rfl⟩
end
def isV (v : Int) : Bool := decide (0 ≤ v ∧ v < 4)
set_option maxRecDepth 100000 in
theorem isVolume_any (v : Int) (w : World) : Calls Tryd.prog 27 #[.int .i64 v] w fun e w' => e = .returned (.bool (isV v)) ∧ w = w' := by
  by_cases h0 : 0 ≤ v
  · have HA : Hid (isV v = decide (v < 4)) := by simp [isV, h0, Hid]
    go_enter Tryd.func27, Tryd.ntmps27
    go_wp2
    rw [HA.out]
    go_ret
    exact ⟨rfl, rfl⟩
  · have HA : Hid (isV v = false) := by simp [isV, h0, Hid]
    go_enter Tryd.func27, Tryd.ntmps27
    go_wp2
    rw [HA.out]
    go_ret
    exact ⟨rfl, rfl⟩
set_option maxRecDepth 100000 in
set_option maxHeartbeats 2000000 in
/-- The volumes, rising, in a slice of the call's own. -/
theorem list_any (s : Nat) (hs : s < 1152921504606846976) (w : World) : Calls Tryd.prog 36 #[.int .i64 (s : Int)] w fun e w' => ∃ v, e = .returned v ∧ Ints w' w.heap.size v (vols s 4) ∧ Below w.heap.size w w' := by
  have Hs := hide hs
  clear hs
  go_enter Tryd.func36, Tryd.ntmps36
  go_wp2
  go_loopw [3, 5] (fun v j wr => ∃ k : Nat, k ≤ 4 ∧ j = .int .i64 (k : Int) ∧ Hid (Ints wr w.heap.size v (vols s k)) ∧ Hid (Below w.heap.size w wr)) (fun _ j _ => 4 - (intOf j).toNat)
  case atStart => exact ⟨0, Nat.zero_le _, rfl, Ints.nil _ _, Below.refl _ _⟩
  case round =>
    obtain ⟨k, hk, rfl, hv, hb⟩ := hrel
    rcases Nat.lt_or_ge k 4 with hlt | hge
    · have Hlt := hide hlt
      have hki : (k : Int) < 4 := by omega
      have HC := hide (has_any s k wr Hs.out hlt)
      obtain ⟨VA, vc, rfl, _, _, _⟩ := hv.out.form
      obtain ⟨q, hq⟩ : ∃ q, (vols s k).length = q := ⟨_, rfl⟩
      have hq1 := vols_len s k
      rw [hq] at hq1
      cases hbit : bt s k with
      | false =>
        have HT := hide (show vols s (k + 1) = vols s k by simp [vols, hbit])
        rw [hq] at hv ⊢
        rw [hbit] at HC
        clear hlt hk
        go_wp2_with fail
        refine HC.out.mono ?_
        rintro e w2 ⟨rfl, rfl⟩
        clear HC hbit
        go_wp2
        go_roundw
        case rel => exact ⟨k + 1, Hlt.out, by go_num, by rw [HT.out]; exact hv.out, hb.out⟩
        case measure => have := Hlt.out; simp [intOf]; omega
      | true =>
        have HT := hide (show vols s (k + 1) = vols s k ++ [(k : Int)] by simp [vols, hbit])
        rw [hbit] at HC
        have hb5 : Below wr.heap.size wr (wr.alloc (.cells #[.int .i64 (k : Int)] 3)) := (Below.refl _ _).alloc (Nat.le_refl _) _
        have hvr := (hv.out.below hb5).row
        have Hm1 := hide (show q + 1 ≤ maxLen by unfold maxLen; omega)
        have Hm2 := hide (show (q + 1) * 8 ≤ 140737488355328 by omega)
        rw [hq] at hvr ⊢
        have HO := hide hvr
        have HM := hide (Made.row (Below.refl _ wr) #[.int .i64 (k : Int)] 3).src
        have HG : Hid (∀ (W2 : World) (v2 : Value), Grown (wr.alloc (.cells #[.int .i64 (k : Int)] 3)) 3 1 (.slice VA q vc) (q + 1) (nums (vols s k) ++ nums [(k : Int)]) v2 W2 → Ints W2 w.heap.size v2 (vols s (k + 1)) ∧ Below w.heap.size w W2) := fun W2 v2 hg => by
          have hkp := hg.kept (G := fun i => w.heap.size ≤ i) hb5 (fun i hi => hv.out.own i (by rw [hq]; exact hi))
          refine ⟨⟨?_, fun i hi => ?_⟩, hb.out.trans (hkp.below (fun _ h => h) hb.out.size)⟩
          · rw [HT.out]
            have := hg.row
            simpa [nums, hq] using this
          · rcases hg.own i hi with h1 | h1
            · exact hv.out.own i (by rw [hq]; exact h1)
            · have := hb5.size
              have := hb.out.size
              omega
        clear hlt hk hvr hb5
        go_wp2_with fail
        refine HC.out.mono ?_
        rintro e w2 ⟨rfl, rfl⟩
        clear HC hbit
        go_wp2_with (at_builtin; go_must (refine wpList_app app_int rfl (.tmp 11) (.tmp 13) rfl (.slice VA q vc) q (nums (vols s k)) rfl HO.out _ 1 1 (nums [(k : Int)]) rfl rfl HM.out (fun u hu => by simp [nums] at hu; subst hu; rfl) (by decide) Hm1.out Hm2.out ?_))
        intro v2 W2 hg
        have HGW := hide (HG.out W2 v2 hg.out)
        clear hg HG HM HO
        go_wp2
        go_roundw
        case rel => exact ⟨k + 1, Hlt.out, by go_num, HGW.out.1, HGW.out.2⟩
        case measure => have := Hlt.out; simp [intOf]; omega
    · obtain rfl : k = 4 := by omega
      clear hge hk
      go_wp2
      go_ret
      exact ⟨_, rfl, hv.out, hb.out⟩

end Go.Proofs.YthoflpjmdhabmaaDoor.Mb
