/-
  The contract of pack.number: for every slice of bytes it returns what 'dec' says, and changes nothing.
-/
import Derived.Test.YthoflpjmdhabmaaDoorPkMem
namespace Go.Proofs.YthoflpjmdhabmaaDoor.Pk
open Go.RowKit

theorem and127 (d : Nat) (h : d < 256) : bits .and .u8 (d : Int) 127 = ((d % 128 : Nat) : Int) := by
  have := u8_and_nat d 127 h (by omega)
  rw [nat_mask7] at this
  exact this
theorem and128_lo (d : Nat) (h : d < 128) : bits .and .u8 (d : Int) 128 = 0 := by
  have e := u8_and_nat d 128 (by omega) (by omega)
  have b := nat_bit 7 d
  rw [show (2 : Nat) ^ 7 = 128 from rfl, show d / 128 % 2 = 0 by omega, Nat.zero_mul] at b
  rw [b] at e
  exact e
theorem and128_hi (d : Nat) (h1 : 128 ≤ d) (h2 : d < 256) : bits .and .u8 (d : Int) 128 = 128 := by
  have e := u8_and_nat d 128 (by omega) (by omega)
  have b := nat_bit 7 d
  rw [show (2 : Nat) ^ 7 = 128 from rfl, show d / 128 % 2 = 1 by omega, Nat.one_mul] at b
  rw [b] at e
  exact e
theorem or64 (a b : Nat) (ha : a < 9223372036854775808) (hb : b < 9223372036854775808) : bits .or .i64 (a : Int) (b : Int) = ((a ||| b : Nat) : Int) := by
  have hx : a ||| b < 2 ^ 63 := Nat.or_lt_two_pow (by omega) (by omega)
  have h64 : ∀ n : Nat, n < 9223372036854775808 → (BitVec.ofInt 64 (n : Int)).toNat = n := fun n hn => by
    rw [BitVec.ofInt_natCast, BitVec.toNat_ofNat]
    exact Nat.mod_eq_of_lt (by omega)
  show IntKind.i64.wrap ((BitVec.ofInt 64 (a : Int) ||| BitVec.ofInt 64 (b : Int)).toNat : Int) = _
  rw [BitVec.toNat_or, h64 a ha, h64 b hb, IntKind.wrap_i64]
  omega
theorem pow7 (k : Nat) : (128 : Nat) ^ k = 2 ^ (7 * k) := by rw [Nat.pow_mul]
/-- One group laid at its place. -/
theorem group_at (acc d k : Nat) (hk : k ≤ 8) (ha : acc < 128 ^ k) (hd : d < 256) :
    bits .or .i64 (acc : Int) (wrap64 (wrap64 (bits .and .u8 (d : Int) 127) * 2 ^ (7 * k))) = ((acc + d % 128 * 128 ^ k : Nat) : Int) := by
  have hp : 128 ^ k ≤ 72057594037927936 := by have := pow_le k hk; rw [pow8] at this; exact this
  have hm : d % 128 * 128 ^ k ≤ 127 * 128 ^ k := Nat.mul_le_mul_right _ (by omega)
  have e1 : wrap64 ((d % 128 : Nat) : Int) = ((d % 128 : Nat) : Int) := IntWalk.wrap64_in _ ⟨by omega, by omega⟩
  have e2 : ((d % 128 : Nat) : Int) * 2 ^ (7 * k) = ((d % 128 * 128 ^ k : Nat) : Int) := by rw [pow7]; simp
  have e3 : wrap64 ((d % 128 * 128 ^ k : Nat) : Int) = ((d % 128 * 128 ^ k : Nat) : Int) := IntWalk.wrap64_in _ ⟨by omega, by omega⟩
  rw [and127 d hd, e1, e2, e3, or64 _ _ (by omega) (by omega)]
  congr 1
  rw [Nat.or_comm, nat_join (7 * k) _ acc (by rw [pow7]; exact Nat.mul_mod_left _ _) (by rw [← pow7]; exact ha)]
  omega

theorem drop_at (l : List UInt8) (k : Nat) (x : UInt8) (h : l[k]? = some x) : l.drop k = x :: l.drop (k + 1) := by
  obtain ⟨hk, e⟩ := List.getElem?_eq_some_iff.1 h
  rw [List.drop_eq_getElem_cons hk, e]

/-- The ways of one round, said of 'decF'. -/
theorem way_big (k acc : Nat) (x : UInt8) (r : List UInt8) (h : 1152921504606846975 < acc + x.toNat % 128 * 128 ^ k) : decF k acc (x :: r) = (0, 0, 1) := by
  unfold decF; rw [if_pos (.inl h)]
theorem way_nine (acc : Nat) (x : UInt8) (r : List UInt8) (h : 128 ≤ x.toNat) : decF 8 acc (x :: r) = (0, 0, 1) := by
  unfold decF; rw [if_pos (.inr ⟨h, rfl⟩)]
theorem way_zero (k acc : Nat) (x : UInt8) (r : List UInt8) (h : x.toNat = 0) (hk : 0 < k) : decF k acc (x :: r) = (0, 0, 1) := by
  unfold decF
  split
  · rfl
  · rw [if_pos ⟨h, hk⟩]

theorem ret3 {a b c a' b' c' : Nat} {w : World} (h : (a', b', c') = (a, b, c)) : Ending.returned (.tuple #[.int .i64 (a : Int), .int .i64 (b : Int), .int .i64 (c : Int)]) = .returned (.tuple #[.int .i64 ((a', b', c') : Nat × Nat × Nat).1, .int .i64 ((a', b', c') : Nat × Nat × Nat).2.1, .int .i64 ((a', b', c') : Nat × Nat × Nat).2.2]) ∧ w = w := by
  rw [h]; exact ⟨rfl, rfl⟩

set_option maxHeartbeats 1000000 in
theorem number_some (b o c : Nat) (l : List UInt8) (w : World) (hl : l.length ≤ 9223372036854775807)
    (hc : ∀ j u, l[j]? = some u → w.cell? ⟨b, o + j, none⟩ = some (cel u)) (n1 n2 n3 : Nat) (hres : Hid (dec l = (n1, n2, n3))) :
    Calls Tryd.prog 62 #[.slice (some ⟨b, o, none⟩) l.length c] w fun e w' =>
      e = .returned (.tuple #[.int .i64 n1, .int .i64 n2, .int .i64 n3]) ∧ w = w' := by
  generalize hlen : l.length = len at *
  have Hlen := hide hlen
  clear hlen
  go_enter Tryd.func62, Tryd.ntmps62
  go_wp2
  go_loop [2, 10] (fun n i => ∃ (k acc : Nat), k ≤ len ∧ k ≤ 8 ∧ i = .int .i64 k ∧ n = .int .i64 acc ∧ Hid (acc < 128 ^ k) ∧ Hid (decF k acc (l.drop k) = (n1, n2, n3))) (fun _ i => len - (intOf i).toNat)
  case atStart => exact ⟨0, 0, by omega, by omega, rfl, rfl, Nat.one_pos, hres⟩
  case round =>
    clear hres
    obtain ⟨k, acc, hk, hk8, rfl, rfl, hacc, hd⟩ := hrel
    by_cases hlt : k < len
    · obtain ⟨x, hx⟩ : ∃ x : UInt8, l[k]? = some x := ⟨l[k]'(by rw [Hlen.out]; exact hlt), List.getElem?_eq_getElem _⟩
      obtain ⟨d, hd'⟩ : ∃ d : Nat, d = x.toNat := ⟨_, rfl⟩
      have hcell : w.cell? ⟨b, o + k, none⟩ = some (.int .u8 (d : Int)) := by rw [hc k x hx, cel, hd']
      have hdl : d < 256 := by rw [hd']; exact x.toNat_lt
      have hg := group_at acc d k hk8 hacc.out hdl
      obtain ⟨m, hm⟩ : ∃ m : Nat, m = acc + d % 128 * 128 ^ k := ⟨_, rfl⟩
      rw [← hm] at hg
      have hd2 := hd.out
      rw [drop_at l k x hx] at hd2
      have Hm : Hid (m = acc + x.toNat % 128 * 128 ^ k) := by rw [← hd']; exact hm
      have Hd2 := hide hd2
      have Hd := hide hd'
      clear hx hd' hc hm hd2 hd
      rcases Nat.lt_or_ge 1152921504606846975 m with hbig | hbig
      · have hw : Hid ((n1, n2, n3) = (0, 0, 1)) := by
          rw [← Hd2.out]; exact way_big k acc x _ (by rw [← Hm.out]; exact hbig)
        clear Hm Hd2 Hd
        rcases Nat.lt_or_ge d 128 with hlo | hhi
        · have e := and128_lo d hlo
          go_wp2
          go_ret3
          obtain ⟨rfl, rfl, rfl⟩ : n1 = 0 ∧ n2 = 0 ∧ n3 = 1 := by simpa using hw.out
          exact ⟨rfl, rfl⟩
        · have e := and128_hi d hhi hdl
          go_wp2
          go_ret3
          obtain ⟨rfl, rfl, rfl⟩ : n1 = 0 ∧ n2 = 0 ∧ n3 = 1 := by simpa using hw.out
          exact ⟨rfl, rfl⟩
      · rcases Nat.lt_or_ge d 128 with hlo | hhi
        · have e := and128_lo d hlo
          by_cases hz : d = 0 ∧ 0 < k
          · have hw : Hid ((n1, n2, n3) = (0, 0, 1)) := by
              rw [← Hd2.out]; exact way_zero k acc x _ (by rw [← Hd.out]; exact hz.1) hz.2
            have hz1 : d < 1 := by omega
            have hz2 := hz.2
            clear Hm Hd2 Hd hz
            go_wp2
            go_ret3
            obtain ⟨rfl, rfl, rfl⟩ : n1 = 0 ∧ n2 = 0 ∧ n3 = 1 := by simpa using hw.out
            exact ⟨rfl, rfl⟩
          · have hw : Hid ((n1, n2, n3) = (m, k + 1, 0)) := by
              have hx := Hd.out
              have hm := Hm.out
              rw [Nat.mod_eq_of_lt (by omega)] at hm
              rw [← Hd2.out, hm]; exact decF_last k acc x _ (by omega) (by omega) (by omega)
            clear Hm Hd2 Hd
            rcases Nat.lt_or_ge 0 d with h0 | h0
            · go_wp2
              go_ret3
              obtain ⟨rfl, rfl, rfl⟩ : n1 = m ∧ n2 = k + 1 ∧ n3 = 0 := by simpa using hw.out
              exact ⟨by simp, rfl⟩
            · have hk0 : k < 1 := by omega
              clear hz
              go_wp2
              go_ret3
              obtain ⟨rfl, rfl, rfl⟩ : n1 = m ∧ n2 = k + 1 ∧ n3 = 0 := by simpa using hw.out
              exact ⟨by simp, rfl⟩
        · have e := and128_hi d hhi hdl
          rcases Nat.lt_or_ge k 8 with hk9 | hk9
          · have hw : Hid (decF (k + 1) m (l.drop (k + 1)) = (n1, n2, n3)) := by
              have hx := Hd.out
              have e2 := decF_more k acc x (l.drop (k + 1)) (by rw [← Hm.out]; omega) (by omega) (by omega)
              rw [Hd2.out, ← Hm.out] at e2
              exact e2.symm
            have hma : Hid (m < 128 ^ (k + 1)) := by rw [Hm.out]; exact acc_lt k acc _ hacc.out (by omega)
            clear Hm Hd2 Hd
            go_wp2
            go_round
            case rel => exact ⟨k + 1, m, by omega, by omega, by go_num, rfl, hma, hw⟩
            case measure => simp [intOf]; omega
          · have hw : Hid ((n1, n2, n3) = (0, 0, 1)) := by
              have hx := Hd.out
              obtain rfl : k = 8 := by omega
              rw [← Hd2.out]; exact way_nine acc x _ (by omega)
            clear Hm Hd2 Hd
            go_wp2
            go_ret3
            obtain ⟨rfl, rfl, rfl⟩ : n1 = 0 ∧ n2 = 0 ∧ n3 = 1 := by simpa using hw.out
            exact ⟨rfl, rfl⟩
    · have hw : Hid ((n1, n2, n3) = (0, 0, 2)) := by
        rw [← hd.out, List.drop_eq_nil_of_le (by rw [Hlen.out]; omega)]; rfl
      clear hd hc
      go_wp2
      go_ret3
      obtain ⟨rfl, rfl, rfl⟩ : n1 = 0 ∧ n2 = 0 ∧ n3 = 2 := by simpa using hw.out
      exact ⟨rfl, rfl⟩

set_option maxHeartbeats 400000 in
theorem number_none (A : Option Addr) (c : Nat) (w : World) :
    Calls Tryd.prog 62 #[.slice A 0 c] w fun e w' =>
      e = .returned (.tuple #[.int .i64 0, .int .i64 0, .int .i64 2]) ∧ w = w' := by
  go_enter Tryd.func62, Tryd.ntmps62
  go_wp2
  refine wp_loop_rounds 1 ?_
  rw [rounds_succ]
  go_wp2
  go_ret3
  exact ⟨rfl, rfl⟩

theorem number_any (A : Option Addr) (c B : Nat) (l : List UInt8) (w : World) (hl : l.length ≤ maxLen) (hb : Byt w B A l) (n1 n2 n3 : Nat) (hres : Hid (dec l = (n1, n2, n3))) :
    Calls Tryd.prog 62 #[.slice A l.length c] w fun e w' =>
      e = .returned (.tuple #[.int .i64 n1, .int .i64 n2, .int .i64 n3]) ∧ w = w' := by
  unfold maxLen at hl
  cases l with
  | nil =>
    obtain ⟨rfl, rfl, rfl⟩ : 0 = n1 ∧ 0 = n2 ∧ 2 = n3 := by
      have := hres.out
      simpa [dec, decF] using this
    exact number_none A c w
  | cons x r =>
    obtain ⟨b, o, rfl, _, hc⟩ := hb (by simp)
    exact number_some b o c (x :: r) w (by omega) hc n1 n2 n3 hres

end Go.Proofs.YthoflpjmdhabmaaDoor.Pk
