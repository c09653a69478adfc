/-
  DiskHalves at every number and every uint64: it returns true, and changes nothing that was there. Condition: the library's variable errors.errorType holds its own type's handle.
-/
import Derived.BigQuiet
import Derived.Test.YthdgidfdjnfpiaaDoorDkFam
namespace Go.Proofs.YthdgidfdjnfpiaaDoor.Dk
open Go.RowKit
open Pk Sm Fa

/-- The writes of the sectors from k on, m of them, each of its own byte. -/
def wrs : Nat → Nat → List Wr
  | _, 0 => []
  | k, m + 1 => (k, fl (UInt8.ofNat (k + 1))) :: wrs (k + 1) m
theorem wrs_snoc : ∀ (m k : Nat), wrs k m ++ [(k + m, fl (UInt8.ofNat (k + m + 1)))] = wrs k (m + 1)
  | 0, k => rfl
  | m + 1, k => by
    show (k, fl (UInt8.ofNat (k + 1))) :: (wrs (k + 1) m ++ [(k + (m + 1), fl (UInt8.ofNat (k + (m + 1) + 1)))]) = _
    rw [show k + (m + 1) = k + 1 + m by omega, wrs_snoc m (k + 1)]
    rfl
theorem wrs_next (k : Nat) : wrs 0 k ++ [(k, fl (UInt8.ofNat (k + 1)))] = wrs 0 (k + 1) := by
  have := wrs_snoc k 0
  rwa [Nat.zero_add] at this
theorem wrs_length : ∀ (m k : Nat), (wrs k m).length = m
  | 0, _ => rfl
  | m + 1, k => by simp [wrs, wrs_length m]
theorem wrs_crash (K : Nat) : ∀ (m k : Nat) (S : List Sec) (i : Nat), k + m ≤ S.length → k + m ≤ 64 → (crash K k (wrs k m) S)[i]? = if k ≤ i ∧ i < k + m ∧ K.testBit i = true then some (fl (UInt8.ofNat (i + 1))) else S[i]?
  | 0, k, S, i, _, _ => by
    rw [if_neg (by omega)]
    rfl
  | m + 1, k, S, i, h1, h2 => by
    show (crash K (k + 1) (wrs (k + 1) m) (if K.testBit (k % 64) then done S (k, fl (UInt8.ofNat (k + 1))) else S))[i]? = _
    rw [wrs_crash K m (k + 1) _ i (by
      split
      · rw [done, List.length_set]; omega
      · omega) (by omega), Nat.mod_eq_of_lt (by omega : k < 64)]
    by_cases hik : i = k
    · subst hik
      rw [if_neg (by omega)]
      by_cases hb : K.testBit i = true
      · rw [if_pos hb, if_pos ⟨Nat.le_refl _, by omega, hb⟩, done, List.getElem?_set_self (by omega)]
      · rw [if_neg hb, if_neg (fun h => hb h.2.2)]
    · have hS : (if K.testBit k = true then done S (k, fl (UInt8.ofNat (k + 1))) else S)[i]? = S[i]? := by
        split
        · rw [done, List.getElem?_set_ne (fun e => hik e.symm)]
        · rfl
      rw [hS]
      by_cases hc : k + 1 ≤ i ∧ i < k + 1 + m ∧ K.testBit i = true
      · rw [if_pos hc, if_pos ⟨by omega, by omega, hc.2.2⟩]
      · rw [if_neg hc, if_neg (fun h => hc ⟨by omega, by omega, h.2.2⟩)]
theorem half (K n i : Nat) (hn : n ≤ 60) (hi : i < n) : (all (crash K 0 (wrs 0 n) (List.replicate n zero)) [])[i]? = some (if K.testBit i = true then fl (UInt8.ofNat (i + 1)) else zero) := by
  show (crash K 0 (wrs 0 n) (List.replicate n zero))[i]? = _
  rw [wrs_crash K n 0 _ i (by simp) (by omega)]
  by_cases hb : K.testBit i = true
  · rw [if_pos ⟨by omega, by omega, hb⟩, if_pos hb]
  · rw [if_neg (fun h => hb h.2.2), if_neg hb]
    simp [hi]
theorem comp_bit (K i : Nat) (hK : K < 18446744073709551616) (hi : i < 64) : (18446744073709551615 - K).testBit i = !K.testBit i := by
  have := Nat.testBit_two_pow_sub_succ (n := 64) (x := K) (by omega) i
  rw [show 2 ^ 64 - (K + 1) = 18446744073709551615 - K by omega] at this
  rw [this]
  simp [hi]
theorem not_bits (K : Nat) (hK : K < 18446744073709551616) : bits .xor .u64 IntKind.u64.max (K : Int) = ((18446744073709551615 - K : Nat) : Int) := by
  have h1 := u64_xor_nat 18446744073709551615 K (by omega) hK
  have h2 : 18446744073709551615 ^^^ K = 18446744073709551615 - K := by
    apply Nat.eq_of_testBit_eq
    intro i
    rw [Nat.testBit_xor]
    by_cases hi : i < 64
    · rw [comp_bit K i hK hi, show (18446744073709551615 : Nat) = 2 ^ 64 - 1 by decide, Nat.testBit_two_pow_sub_one]
      simp [hi]
    · have h3 : K < 2 ^ i := Nat.lt_of_lt_of_le hK (by rw [show (18446744073709551616 : Nat) = 2 ^ 64 by decide]; exact Nat.pow_le_pow_right (by omega) (by omega))
      have h4 : 18446744073709551615 - K < 2 ^ i := Nat.lt_of_lt_of_le (by omega : 18446744073709551615 - K < 18446744073709551616) (by rw [show (18446744073709551616 : Nat) = 2 ^ 64 by decide]; exact Nat.pow_le_pow_right (by omega) (by omega))
      have h5 : 18446744073709551615 < 2 ^ i := Nat.lt_of_lt_of_le (by omega : 18446744073709551615 < 18446744073709551616) (by rw [show (18446744073709551616 : Nat) = 2 ^ 64 by decide]; exact Nat.pow_le_pow_right (by omega) (by omega))
      rw [Nat.testBit_lt_two_pow h3, Nat.testBit_lt_two_pow h4, Nat.testBit_lt_two_pow h5]
      rfl
  rw [h2] at h1
  exact h1
theorem bits8 (n : Nat) (h : n < 255) : bits .or .u8 ((n : Int) + 1) 0 = (n : Int) + 1 ∧ bits .or .u8 0 ((n : Int) + 1) = (n : Int) + 1 ∧ bits .and .u8 ((n : Int) + 1) 0 = 0 ∧ bits .and .u8 0 ((n : Int) + 1) = 0 := by
  have h1 := u8_or_nat (n + 1) 0 (by omega) (by omega)
  have h2 := u8_or_nat 0 (n + 1) (by omega) (by omega)
  have h3 := u8_and_nat (n + 1) 0 (by omega) (by omega)
  have h4 := u8_and_nat 0 (n + 1) (by omega) (by omega)
  rw [Nat.or_zero] at h1
  rw [Nat.zero_or] at h2
  rw [Nat.and_zero] at h3
  rw [Nat.zero_and] at h4
  exact ⟨h1, h2, h3, h4⟩
theorem below_drewN {B : Nat} {w w' : World} (h : Below B w w') (k : Nat) : Below B w (w'.drewN k) := ⟨h.os, h.tape, h.output, h.size, h.block⟩
theorem ofNat8 (n : Nat) (h : n < 256) : ((UInt8.ofNat n).toNat : Int) = (n : Int) := by
  rw [ofNat_toNat _ h]

set_option maxRecDepth 100000 in
set_option maxHeartbeats 4000000 in
theorem Halves_any (a K : Nat) (w : World) (hty : Ety w) (ha : a < 256) (hK : K < 18446744073709551616) :
    Calls Tryd.prog 8 #[.int .u8 a, .int .u64 K] w fun r w' => r = .returned (.bool true) ∧ Below w.heap.size w w' := by
  have HA := hide (awake_any w hty)
  obtain ⟨n, hn⟩ : ∃ n : Nat, 1 + (a : Int) % 60 = (n : Int) := ⟨1 + a % 60, by omega⟩
  have Hn60 := hide (show n ≤ 60 by omega)
  have HK := hide hK
  have hai : (a : Int) < 256 := by omega
  clear hty ha hK
  go_enter Tryd.func8, Tryd.ntmps8
  go_wp2_with fail
  refine HA.out.mono ?_
  rintro r w1 ⟨rfl, hb1⟩
  have HB1 := hide hb1
  clear HA hb1
  go_wp2_with fail
  refine (New_any _ n _ (by have := Hn60.out; omega)).mono ?_
  intro r w2 hm2
  obtain ⟨p, C2, rfl, ha2, _, hf2, hb2, hc2⟩ := At.fresh (C := none0) (i := 0) (B := w.heap.size) hm2 (none0_ne 0) (none0_from _) HB1.out.size
  have HB2 := hide (HB1.out.trans (hb2.mono HB1.out.size))
  have Ha2 := hide ha2
  have Hf2 := hide hf2
  have Hc2 := hide (show ∀ k, C2 k ≠ some 1 from fun k h => by rcases hc2 k 1 h with h | h; cases h; cases h)
  clear hm2 ha2 hf2 hb2 hc2
  go_wp2_with fail
  refine (New_any _ n _ (by have := Hn60.out; omega)).mono ?_
  intro r w3 hm3
  obtain ⟨q, C3, rfl, hq3, ho3, hf3, hb3, _⟩ := At.fresh (i := 1) (B := w.heap.size) hm3 Hc2.out Hf2.out HB2.out.size
  have HB3 := hide (HB2.out.trans (hb3.mono HB2.out.size))
  have Hp3 := hide (ho3 0 p _ _ (by decide) Ha2.out)
  have Hq3 := hide hq3
  have Hf3 := hide hf3
  clear hm3 hq3 ho3 hf3 hb3 Ha2 Hf2 Hc2 HB1 HB2
  go_wp2
  clear hn
  go_loopw [25] (fun j wr => ∃ (k : Nat) (C : Nat → Option Nat), k ≤ n ∧ j = .int .i64 k ∧ Hid (At C wr 0 p (List.replicate n zero) (wrs 0 k)) ∧ Hid (At C wr 1 q (List.replicate n zero) (wrs 0 k)) ∧ Hid (From C w.heap.size) ∧ Hid (Below w.heap.size w wr)) (fun j _ => n - (intOf j).toNat)
  case atStart => exact ⟨0, C3, Nat.zero_le _, rfl, Hp3.out, Hq3.out, Hf3.out, HB3.out⟩
  case round =>
    obtain ⟨k, C, hk, rfl, hp, hq, hf, hb⟩ := hrel
    have hlim : n ≤ 60 := Hn60.out
    rcases Nat.lt_or_ge k n with hlt | hge
    · have Hlt := hide hlt
      have hki : (k : Int) < 60 := by omega
      have hkn : (k : Int) < (n : Int) := by omega
      clear hlt hlim
      go_wp2_with fail
      refine (full_any (UInt8.ofNat (k + 1)) _ _ (by rw [ofNat8 _ (by omega)]; omega)).mono ?_
      rintro r w4 ⟨g4, rfl, hg4, hc4, hb4⟩
      have HB4 := hide (hb.out.trans (hb4.mono hb.out.size))
      have HW := hide (Write_any w4 _ p k 64 _ _ _ _ (hp.out.below hb4) (by simp; exact Hlt.out) (byt_row hc4) (fl_length _) (by rw [wrs_length]; have := Hlt.out; have := Hn60.out; omega))
      have Hq4 := hide (hq.out.below hb4)
      clear hg4 hc4 hb4 hp hq hb
      go_wp2_with fail
      refine HW.out.mono ?_
      rintro r w5 ⟨rfl, hp5⟩
      rw [wrs_next] at hp5
      obtain ⟨C5, ha5, ho5, hf5, hb5, _⟩ := At.step (B := w.heap.size) hp5 hf.out HB4.out.size
      have Hq5 := hide (ho5 1 q _ _ (by decide) Hq4.out)
      have Hp5 := hide ha5
      have Hf5 := hide hf5
      have HB5 := hide (HB4.out.trans hb5)
      clear hp5 ha5 ho5 hf5 hb5 HW Hq4 HB4 hf
      go_wp2_with fail
      refine (full_any (UInt8.ofNat (k + 1)) _ _ (by rw [ofNat8 _ (by omega)]; omega)).mono ?_
      rintro r w6 ⟨g6, rfl, hg6, hc6, hb6⟩
      have HB6 := hide (HB5.out.trans (hb6.mono HB5.out.size))
      have HW := hide (Write_any w6 _ q k 64 _ _ _ _ (Hq5.out.below hb6) (by simp; exact Hlt.out) (byt_row hc6) (fl_length _) (by rw [wrs_length]; have := Hlt.out; have := Hn60.out; omega))
      have Hp6 := hide (Hp5.out.below hb6)
      clear hg6 hc6 hb6 Hp5 Hq5 HB5
      go_wp2_with fail
      refine HW.out.mono ?_
      rintro r w7 ⟨rfl, hp7⟩
      rw [wrs_next] at hp7
      obtain ⟨C7, ha7, ho7, hf7, hb7, _⟩ := At.step (B := w.heap.size) hp7 Hf5.out HB6.out.size
      have Hp7 := hide (ho7 0 p _ _ (by decide) Hp6.out)
      have Hq7 := hide ha7
      have Hf7 := hide hf7
      have HB7 := hide (HB6.out.trans hb7)
      clear hp7 ha7 ho7 hf7 hb7 HW Hp6 HB6 Hf5
      go_wp2
      go_roundw
      case rel => exact ⟨k + 1, C7, Hlt.out, by go_num, Hp7.out, Hq7.out, Hf7.out, HB7.out⟩
      case measure => have := Hlt.out; simp [intOf]; omega
    · obtain rfl : k = n := by omega
      have HC := hide (Crash_any wr _ p K _ _ hp.out HK.out (by rw [wrs_length]; omega))
      clear hp hlim hk hge
      go_wp2_with fail
      refine HC.out.mono ?_
      rintro r w4 ⟨rfl, hp4⟩
      obtain ⟨C4, ha4, ho4, hf4, hb4, _⟩ := At.step (B := w.heap.size) hp4 hf.out hb.out.size
      have Hq4 := hide (ho4 1 q _ _ (by decide) hq.out)
      have Hp4 := hide ha4
      have Hf4 := hide hf4
      have HB4 := hide (hb.out.trans hb4)
      clear hp4 ha4 ho4 hf4 hb4 hq hf hb HC
      go_wp2_with fail
      rw [not_bits K HK.out]
      refine (Crash_any w4 _ q _ _ _ Hq4.out (by have := HK.out; omega) (by rw [wrs_length]; have := Hn60.out; omega)).mono ?_
      rintro r w5 ⟨rfl, hp5⟩
      obtain ⟨C5, ha5, ho5, hf5, hb5, _⟩ := At.step (B := w.heap.size) hp5 Hf4.out HB4.out.size
      have Hp5 := hide (ho5 0 p _ _ (by decide) Hp4.out)
      have Hq5 := hide ha5
      have HB5 := hide (HB4.out.trans hb5)
      clear hp5 ha5 ho5 hf5 hb5 Hp4 Hq4 Hf4 HB4
      go_wp2
      go_loopw [55] (fun j wr => ∃ i : Nat, i ≤ k ∧ j = .int .i64 i ∧ Hid (At C5 wr 0 p (crash K 0 (wrs 0 k) (List.replicate k zero)) []) ∧ Hid (At C5 wr 1 q (crash (18446744073709551615 - K) 0 (wrs 0 k) (List.replicate k zero)) []) ∧ Hid (Below w.heap.size w wr)) (fun j _ => k - (intOf j).toNat)
      case atStart => exact ⟨0, Nat.zero_le _, rfl, Hp5.out, Hq5.out, HB5.out⟩
      case round =>
        obtain ⟨i, hi, rfl, hp, hq, hb⟩ := hrel
        rcases Nat.lt_or_ge i k with hlt | hge
        · have Hlt := hide hlt
          have hk60 := Hn60.out
          have hii : (i : Int) < 60 := by omega
          have hik : (i : Int) < (k : Int) := by omega
          have HR := hide (Read_any wr _ p i _ _ _ hp.out (half K k i hk60 hlt) (by rw [crash_length]; simpa using hlt) (by simp))
          clear hlt hk60
          go_wp2_with fail
          refine HR.out.mono ?_
          rintro r w6 ⟨g6, rfl, hg6, hc6, hb6⟩
          have HB6 := hide (hb.out.trans (hb6.mono hb.out.size))
          have Hp6 := hide (hp.out.below hb6)
          have hq6 := hq.out.below hb6
          have HR2 := hide (Read_any w6 _ q i _ _ _ hq6 (half (18446744073709551615 - K) k i Hn60.out Hlt.out) (by rw [crash_length]; simpa using Hlt.out) (by simp))
          have Hq6 := hide hq6
          have Hg6 := hide hg6
          clear HR hp hq hb hq6 hg6 hb6
          go_wp2_with fail
          refine HR2.out.mono ?_
          rintro r w7 ⟨g7, rfl, hg7, hc7, hb7⟩
          have HB7 := hide (HB6.out.trans (hb7.mono HB6.out.size))
          have Hp7 := hide (Hp6.out.below hb7)
          have Hq7 := hide (Hq6.out.below hb7)
          have hg6' : w7.heap[g6]? = w6.heap[g6]? := hb7.block g6 (Array.getElem?_eq_some_iff.1 hc6.out).1
          have he := bit_and64 K i HK.out
          rw [comp_bit K i HK.out (by have := Hlt.out; have := Hn60.out; omega)] at hc7
          have HC6 : Hid (w7.heap[g6]? = _) := hg6'.trans hc6.out
          clear HR2 Hg6 hg7 hb7 Hp6 Hq6 hg6' hc6
          obtain ⟨hb1, hb2, hb3, hb4⟩ := bits8 i (by have := Hlt.out; have := Hn60.out; omega)
          have hmod : ((i : Int) + 1) % 256 = (i : Int) + 1 := by omega
          have hnz : ¬ ((i : Int) + 1 = 0) := by omega
          cases hbit : K.testBit i with
          | true =>
            rw [hbit] at he hc7
            have hx : w7.cell? ⟨g6, 0, none⟩ = some (.int .u8 ((i : Int) + 1)) := by
              rw [cell_of_row w7 _ 0 _ _ _ HC6.out, if_pos hbit, ← show ((UInt8.ofNat (i + 1)).toNat : Int) = (i : Int) + 1 by rw [ofNat8 _ (by omega)]; omega]
              rfl
            have hy : w7.cell? ⟨g7, 0, none⟩ = some (.int .u8 0) := by
              rw [cell_of_row w7 _ 0 _ _ _ hc7.out]
              rfl
            rw [if_pos rfl] at he
            clear HC6 hc7 hbit
            go_wp2_with fail
            go_quiet (fail)
            go_wp2
            go_roundw
            case rel => exact ⟨i + 1, Hlt.out, by go_num, Hp7.out, Hq7.out, below_drewN HB7.out _⟩
            case measure => have := Hlt.out; simp [intOf]; omega
          | false =>
            rw [hbit] at he hc7
            have hx : w7.cell? ⟨g6, 0, none⟩ = some (.int .u8 0) := by
              rw [cell_of_row w7 _ 0 _ _ _ HC6.out, if_neg (by rw [hbit]; exact Bool.false_ne_true)]
              rfl
            have hy : w7.cell? ⟨g7, 0, none⟩ = some (.int .u8 ((i : Int) + 1)) := by
              rw [cell_of_row w7 _ 0 _ _ _ hc7.out, ← show ((UInt8.ofNat (i + 1)).toNat : Int) = (i : Int) + 1 by rw [ofNat8 _ (by omega)]; omega]
              rfl
            rw [if_neg (by exact Bool.false_ne_true)] at he
            clear HC6 hc7 hbit
            go_wp2_with fail
            go_quiet (fail)
            go_wp2
            go_roundw
            case rel => exact ⟨i + 1, Hlt.out, by go_num, Hp7.out, Hq7.out, below_drewN HB7.out _⟩
            case measure => have := Hlt.out; simp [intOf]; omega
        · obtain rfl : i = k := by omega
          have HB7 := hide hb.out
          clear hp hq hb
          go_wp2
          go_ret
          exact ⟨rfl, HB7.out⟩

end Go.Proofs.YthdgidfdjnfpiaaDoor.Dk
