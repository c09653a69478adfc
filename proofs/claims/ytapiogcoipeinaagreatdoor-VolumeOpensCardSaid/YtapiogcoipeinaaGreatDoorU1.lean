/-
  The checksum CRC-32C on lists of bytes: one bit's step and its laws (it is linear, and no two numbers below 2^32 have one and the same step), half a byte, a whole list; what is sealed leaves one and the same rest; a bit that is turned turns the rest by a step of its own. Plain theorems on numbers and lists.
-/
namespace Go.Proofs.YtapiogcoipeinaaGreatDoor.Pk
theorem sl.{u} : (∀ (α : Type u) (l : List α) (i : Nat) (a : α), l.toArray.setIfInBounds i a = (l.set i a).toArray) ∧ (∀ (α : Type u) (x : α) (xs : List α) (a : α), (x :: xs).set 0 a = a :: xs) ∧ (∀ (α : Type u) (x : α) (xs : List α) (n : Nat) (a : α), (x :: xs).set (n + 1) a = x :: xs.set n a) :=
 ⟨fun _ _ _ _ => List.setIfInBounds_toArray .., fun _ _ _ _ => rfl, fun _ _ _ _ _ => rfl⟩
def encF : Nat → Nat → List UInt8
 | 0, n => [UInt8.ofNat n]
 | k + 1, n => if n < 128 then [UInt8.ofNat n] else UInt8.ofNat (n % 128 + 128) :: encF k (n / 128)
def enc (n : Nat) : List UInt8 := encF 8 n
def lim (k : Nat) : Nat := 16 * 128 ^ k
theorem lim_succ (k : Nat) : lim (k + 1) = 128 * lim k := by simp only [lim, Nat.pow_succ]; omega
theorem lim_eight : lim 8 = 1152921504606846976 := by decide
def decF : Nat → Nat → List UInt8 → Nat × Nat × Nat
 | _, _, [] => (0, 0, 2)
 | i, acc, c :: r =>
   if 1152921504606846975 < acc + c.toNat % 128 * 128 ^ i ∨ (128 ≤ c.toNat ∧ i = 8) then (0, 0, 1)
   else if c.toNat = 0 ∧ 0 < i then (0, 0, 1)
   else if c.toNat < 128 then (acc + c.toNat % 128 * 128 ^ i, i + 1, 0)
   else decF (i + 1) (acc + c.toNat % 128 * 128 ^ i) r
def dec (l : List UInt8) : Nat × Nat × Nat := decF 0 0 l
theorem ofNat_toNat (n : Nat) (h : n < 256) : (UInt8.ofNat n).toNat = n := by
 rw [UInt8.toNat_ofNat']; omega
theorem pow_le (i : Nat) (h : i ≤ 8) : 128 ^ i ≤ 128 ^ 8 := Nat.pow_le_pow_right (by omega) h
theorem pow_le7 (i : Nat) (h : i ≤ 7) : 128 ^ (i + 1) ≤ 128 ^ 8 := Nat.pow_le_pow_right (by omega) (by omega)
theorem pow8 : 128 ^ 8 = 72057594037927936 := by decide
theorem acc_lt (i acc d : Nat) (h : acc < 128 ^ i) (hd : d < 128) : acc + d * 128 ^ i < 128 ^ (i + 1) := by
 have h1 : d * 128 ^ i ≤ 127 * 128 ^ i := Nat.mul_le_mul_right _ (by omega)
 rw [Nat.pow_succ]; omega
theorem acc_le (i acc d : Nat) (hi : i ≤ 7) (h : acc < 128 ^ i) (hd : d < 128) : acc + d * 128 ^ i ≤ 1152921504606846975 := by
 have := acc_lt i acc d h hd
 have := pow_le7 i hi
 rw [pow8] at this
 omega
theorem split_mul (n P : Nat) : n % 128 * P + n / 128 * (P * 128) = n * P := by
 have h : n = n % 128 + n / 128 * 128 := by omega
 calc n % 128 * P + n / 128 * (P * 128) = (n % 128 + n / 128 * 128) * P := by
       rw [Nat.add_mul, Nat.mul_comm P 128, Nat.mul_assoc]
  _ = n * P := by rw [← h]
theorem encF_le (k n : Nat) : (encF k n).length ≤ k + 1 := by
 induction k generalizing n with
 | zero => simp [encF]
 | succ k ih =>
   unfold encF
   split
   ·simp
   ·have := ih (n / 128); simp; omega
theorem enc_le (n : Nat) : (enc n).length ≤ 9 := encF_le 8 n
theorem decF_last (i acc : Nat) (c : UInt8) (r : List UInt8) (h1 : acc + c.toNat * 128 ^ i ≤ 1152921504606846975) (h2 : c.toNat < 128) (h3 : ¬ (c.toNat = 0 ∧ 0 < i)) :
 decF i acc (c :: r) = (acc + c.toNat * 128 ^ i, i + 1, 0) := by
 have e : c.toNat % 128 = c.toNat := Nat.mod_eq_of_lt h2
 unfold decF
 rw [e, if_neg (by omega), if_neg h3, if_pos h2]
theorem decF_more (i acc : Nat) (c : UInt8) (r : List UInt8) (h1 : acc + c.toNat % 128 * 128 ^ i ≤ 1152921504606846975) (h2 : 128 ≤ c.toNat) (h3 : i ≠ 8) :
 decF i acc (c :: r) = decF (i + 1) (acc + c.toNat % 128 * 128 ^ i) r := by
 conv => lhs; unfold decF
 rw [if_neg (by omega), if_neg (by omega), if_neg (by omega)]
theorem decF_encF (k : Nat) : ∀ (i acc n : Nat) (r : List UInt8), i + k = 8 → acc < 128 ^ i → n < lim k → (0 < i → 0 < n) →
 decF i acc (encF k n ++ r) = (acc + n * 128 ^ i, i + (encF k n).length, 0) := by
 induction k with
 | zero =>
   intro i acc n r hi ha hn hp
   have hi8 : i = 8 := by omega
   subst hi8
   have hn16 : n < 16 := by simpa [lim] using hn
   have e := ofNat_toNat n (by omega)
   simp only [encF, List.cons_append, List.nil_append, List.length_cons, List.length_nil]
   rw [decF_last 8 acc _ r (by rw [e]; rw [pow8] at *; omega) (by omega) (by rw [e]; omega), e]
 | succ k ih =>
   intro i acc n r hi ha hn hp
   by_cases h : n < 128
   ·have e := ofNat_toNat n (by omega)
    have hb := acc_le i acc n (by omega) ha h
    have hen : encF (k + 1) n = [UInt8.ofNat n] := by unfold encF; rw [if_pos h]
    rw [hen]
    simp only [List.cons_append, List.nil_append, List.length_cons, List.length_nil]
    rw [decF_last i acc _ r (by rw [e]; omega) (by omega) (by rw [e]; omega), e]
   ·have e := ofNat_toNat (n % 128 + 128) (by omega)
    have em : (UInt8.ofNat (n % 128 + 128)).toNat % 128 = n % 128 := by rw [e]; omega
    have hb := acc_le i acc (n % 128) (by omega) ha (by omega)
    have hl := acc_lt i acc (n % 128) ha (by omega)
    have hen : encF (k + 1) n = UInt8.ofNat (n % 128 + 128) :: encF k (n / 128) := by conv => lhs; unfold encF
                                                                                      rw [if_neg h]
    have hs := split_mul n (128 ^ i)
    rw [hen]
    simp only [List.cons_append, List.length_cons]
    rw [decF_more i acc _ _ (by rw [em]; omega) (by omega) (by omega), em,
     ih (i + 1) _ (n / 128) r (by omega) hl (by rw [lim_succ] at hn; omega) (by omega)]
    rw [Nat.pow_succ]
    refine Prod.ext ?_ (Prod.ext ?_ rfl)
    ·show acc + n % 128 * 128 ^ i + n / 128 * (128 ^ i * 128) = acc + n * 128 ^ i
     omega
    ·show i + 1 + (encF k (n / 128)).length = i + ((encF k (n / 128)).length + 1)
     omega
theorem dec_enc (n : Nat) (r : List UInt8) (h : n < 1152921504606846976) : dec (enc n ++ r) = (n, (enc n).length, 0) := by
 have := decF_encF 8 0 0 n r (by omega) (by decide) (by rw [lim_eight]; exact h) (by omega)
 simpa [dec, enc] using this
theorem decF_ok (k : Nat) : ∀ (i acc : Nat) (l : List UInt8) (n s : Nat), i + k = 8 → acc < 128 ^ i → decF i acc l = (n, s, 0) →
 ∃ q m, n = acc + q * 128 ^ i ∧ q < lim k ∧ s = i + m ∧ m = (encF k q).length ∧ m ≤ l.length ∧ l.take m = encF k q := by
 induction k with
 | zero =>
   intro i acc l n s hi ha hd
   have hi8 : i = 8 := by omega
   subst hi8
   cases l with
   | nil => simp [decF] at hd
   | cons c r =>
     unfold decF at hd
     split at hd
     ·simp at hd
     ·split at hd
      ·simp at hd
      ·split at hd
       ·rename_i h1 h2 h3
        simp only [Prod.mk.injEq, and_true] at hd
        have e : c.toNat % 128 = c.toNat := Nat.mod_eq_of_lt h3
        rw [e] at h1 hd
        rw [pow8] at h1
        refine ⟨c.toNat, 1, hd.1.symm, ?_, hd.2.symm, by simp [encF], by simp, ?_⟩
        ·simp only [lim, Nat.pow_zero]; omega
        ·simp [encF]
       ·rename_i h1 h2 h3
        exact absurd (Or.inr ⟨by omega, rfl⟩) h1
 | succ k ih =>
   intro i acc l n s hi ha hd
   cases l with
   | nil => simp [decF] at hd
   | cons c r =>
     unfold decF at hd
     split at hd
     ·simp at hd
     ·split at hd
      ·simp at hd
      ·split at hd
       ·rename_i h1 h2 h3
        simp only [Prod.mk.injEq, and_true] at hd
        have e : c.toNat % 128 = c.toNat := Nat.mod_eq_of_lt h3
        rw [e] at hd
        have hen : encF (k + 1) c.toNat = [c] := by unfold encF; rw [if_pos h3]; simp
        refine ⟨c.toNat, 1, hd.1.symm, ?_, hd.2.symm, by rw [hen]; rfl, by simp, ?_⟩
        ·rw [lim_succ]
         have : 0 < lim k := by unfold lim; exact Nat.mul_pos (by omega) (Nat.pow_pos (by omega))
         omega
        ·rw [hen]; simp
       ·rename_i h1 h2 h3
        have hl := acc_lt i acc (c.toNat % 128) ha (by omega)
        obtain ⟨q, m, hn, hq, hs, hm, hle, htk⟩ := ih (i + 1) _ r n s (by omega) hl hd
        have hc : c.toNat < 256 := c.toNat_lt
        have hcm : (c.toNat % 128 + 128) = c.toNat := by omega
        by_cases hq0 : q = 0
        ·exfalso
         subst hq0
         have he : encF k 0 = [0] := by cases k <;> simp [encF]
         rw [he] at hm htk
         simp at hm
         subst hm
         cases r with
         | nil => simp at hle
         | cons d r' =>
           simp at htk
           subst htk
           unfold decF at hd
           split at hd
           ·simp at hd
           ·rw [if_pos ⟨by decide, by omega⟩] at hd
            simp at hd
        ·have hdiv : (c.toNat % 128 + q * 128) / 128 = q := by omega
         have hmod : (c.toNat % 128 + q * 128) % 128 = c.toNat % 128 := by omega
         have hen : encF (k + 1) (c.toNat % 128 + q * 128) = c :: encF k q := by
          conv => lhs; unfold encF
          rw [if_neg (by omega), hdiv, hmod, hcm]
          simp
         refine ⟨c.toNat % 128 + q * 128, m + 1, ?_, ?_, by omega, by rw [hen, hm]; rfl, by simp; omega, ?_⟩
         ·rw [hn, Nat.add_mul, Nat.pow_succ, Nat.mul_assoc, Nat.mul_comm 128 (128 ^ i)]; omega
         ·rw [lim_succ]; omega
         ·rw [hen, List.take_succ_cons, htk]
theorem dec_ok (l : List UInt8) (n s : Nat) (h : dec l = (n, s, 0)) : n < 1152921504606846976 ∧ s = (enc n).length ∧ s ≤ l.length ∧ l.take s = enc n := by
 obtain ⟨q, m, hn, hq, hs, hm, hle, htk⟩ := decF_ok 8 0 0 l n s (by omega) (by decide) h
 have e : n = q := by simpa using hn
 subst e
 have e2 : s = m := by omega
 subst e2
 rw [lim_eight] at hq
 exact ⟨hq, hm, hle, htk⟩
theorem decF_bad (l : List UInt8) : ∀ (i acc : Nat), (decF i acc l).2.2 = 0 ∨ decF i acc l = (0, 0, 1) ∨ decF i acc l = (0, 0, 2) := by
 induction l with
 | nil => intro i acc; simp [decF]
 | cons c r ih =>
   intro i acc
   unfold decF
   split
   ·simp
   ·split
    ·simp
    ·split
     ·simp
     ·exact ih _ _
theorem dec_cases (l : List UInt8) : (∃ n s, dec l = (n, s, 0) ∧ n < 1152921504606846976 ∧ s ≤ l.length) ∨ dec l = (0, 0, 1) ∨ dec l = (0, 0, 2) := by
 rcases decF_bad l 0 0 with h | h | h
 ·left
  have e : dec l = ((dec l).1, (dec l).2.1, 0) := by
   refine Prod.ext rfl (Prod.ext rfl ?_)
   exact h
  have := dec_ok l _ _ e
  exact ⟨_, _, e, this.1, this.2.2.1⟩
 ·exact .inr (.inl h)
 ·exact .inr (.inr h)
def clamp (n : Int) : Nat := (max 0 (min n 1152921504606846975)).toNat
theorem clamp_lt (n : Int) : clamp n < 1152921504606846976 := by unfold clamp; omega
end Go.Proofs.YtapiogcoipeinaaGreatDoor.Pk
namespace Go.Proofs.YtapiogcoipeinaaGreatDoor.Sm
abbrev poly : Nat := 2197175160
abbrev ones : Nat := 4294967295
def step (c : Nat) : Nat := c / 2 ^^^ c % 2 * poly
def steps : Nat → Nat → Nat
 | 0, c => c
 | n + 1, c => steps n (step c)
def upd (c : Nat) (x : UInt8) : Nat := steps 8 (c ^^^ x.toNat)
def crcF : Nat → List UInt8 → Nat
 | c, [] => c
 | c, x :: r => crcF (upd c x) r
def crc (l : List UInt8) : Nat := crcF ones l ^^^ ones
def le4 (c : Nat) : List UInt8 := [UInt8.ofNat (c % 256), UInt8.ofNat (c / 256 % 256), UInt8.ofNat (c / 65536 % 256), UInt8.ofNat (c / 16777216 % 256)]
def seal4 (l : List UInt8) : List UInt8 := l ++ le4 (crc l)
theorem xor_div (a b n : Nat) : (a ^^^ b) / 2 ^ n = a / 2 ^ n ^^^ b / 2 ^ n := by
 rw [← Nat.shiftRight_eq_div_pow, ← Nat.shiftRight_eq_div_pow, ← Nat.shiftRight_eq_div_pow, Nat.shiftRight_xor_distrib]
theorem xor_div2 (a b : Nat) : (a ^^^ b) / 2 = a / 2 ^^^ b / 2 := xor_div a b 1
theorem xor_mod (a b n : Nat) : (a ^^^ b) % 2 ^ n = a % 2 ^ n ^^^ b % 2 ^ n := Nat.xor_mod_two_pow
theorem xor_mod2 (a b : Nat) : (a ^^^ b) % 2 = a % 2 ^^^ b % 2 := xor_mod a b 1
theorem xor4 (a b c d : Nat) : (a ^^^ b) ^^^ (c ^^^ d) = (a ^^^ c) ^^^ (b ^^^ d) := by
 rw [Nat.xor_assoc, ← Nat.xor_assoc b c d, Nat.xor_comm b c, Nat.xor_assoc c b d, ← Nat.xor_assoc]
theorem xor_back (a b : Nat) : a ^^^ (a ^^^ b) = b := by rw [← Nat.xor_assoc, Nat.xor_self, Nat.zero_xor]
theorem step_xor (a b : Nat) : step (a ^^^ b) = step a ^^^ step b := by
 unfold step
 rw [xor_div2, xor_mod2, xor4]
 congr 1
 rcases Nat.mod_two_eq_zero_or_one a with h | h <;> rcases Nat.mod_two_eq_zero_or_one b with h' | h' <;> simp [h, h']
theorem steps_xor (n : Nat) : ∀ a b, steps n (a ^^^ b) = steps n a ^^^ steps n b := by
 induction n with
 | zero => intro a b; rfl
 | succ n ih => intro a b; simp only [steps]; rw [step_xor, ih]
theorem steps_add (m n c : Nat) : steps (m + n) c = steps n (steps m c) := by
 induction m generalizing c with
 | zero => rw [Nat.zero_add]; rfl
 | succ m ih => rw [Nat.add_right_comm]; simp only [steps]; exact ih _
theorem steps_zero (n : Nat) : steps n 0 = 0 := by
 induction n with
 | zero => rfl
 | succ n ih => exact ih
theorem step_lt (c : Nat) (h : c < 4294967296) : step c < 4294967296 := by
 unfold step
 have h1 : c / 2 < 2 ^ 32 := by omega
 have h2 : c % 2 * poly < 2 ^ 32 := by unfold poly; omega
 exact Nat.xor_lt_two_pow h1 h2
theorem steps_lt (n : Nat) : ∀ c, c < 4294967296 → steps n c < 4294967296 := by
 induction n with
 | zero => intro c h; exact h
 | succ n ih => intro c h; exact ih _ (step_lt c h)
theorem xor_lt (a b : Nat) (ha : a < 4294967296) (hb : b < 4294967296) : a ^^^ b < 4294967296 := Nat.xor_lt_two_pow (n := 32) ha hb
theorem xor_eq_zero (a b : Nat) (h : a ^^^ b = 0) : a = b := by
 have := xor_back a b
 rw [h, Nat.xor_zero] at this
 exact this
theorem step_null (c : Nat) (h : c < 4294967296) (h0 : step c = 0) : c = 0 := by
 have e := xor_eq_zero _ _ h0
 unfold poly at e
 omega
theorem steps_null (n : Nat) : ∀ c, c < 4294967296 → steps n c = 0 → c = 0 := by
 induction n with
 | zero => intro c _ h; exact h
 | succ n ih => intro c h h0; exact step_null c h (ih _ (step_lt c h) h0)
theorem step_even (c : Nat) : step (2 * c) = c := by
 unfold step
 rw [show 2 * c % 2 = 0 by omega, show 2 * c / 2 = c by omega, Nat.zero_mul, Nat.xor_zero]
theorem steps_up (n : Nat) : ∀ c, steps n (2 ^ n * c) = c := by
 induction n with
 | zero => intro c; simp [steps]
 | succ n ih =>
   intro c
   simp only [steps]
   rw [Nat.pow_succ, Nat.mul_comm (2 ^ n) 2, Nat.mul_assoc, step_even, ih]
theorem parts (c n : Nat) : 2 ^ n * (c / 2 ^ n) ^^^ c % 2 ^ n = c := by
 apply Nat.eq_of_testBit_eq
 intro i
 rw [Nat.testBit_xor, Nat.testBit_two_pow_mul, Nat.testBit_div_two_pow, Nat.testBit_mod_two_pow]
 by_cases h : i < n
 ·simp [h, Nat.not_le.2 h]
 ·have h' : n ≤ i := by omega
  simp [h, h', Nat.sub_add_cancel h']
theorem steps_parts (c n : Nat) : steps n c = c / 2 ^ n ^^^ steps n (c % 2 ^ n) := by
 conv => lhs; rw [← parts c n]
 rw [steps_xor, steps_up]
def halves : List Nat := [0, 274646895, 549293790, 820201905, 1098587580, 1361435347, 1640403810, 1905808397, 2197175160, 2460548119, 2722870694, 2987750089, 3280807620, 3553878443, 3811616794, 4084100981]
theorem half_small : ∀ r : Fin 16, steps 4 r.val = halves.getD r.val 0 := by decide
theorem half (c : Nat) : c / 16 ^^^ halves.getD (c % 16) 0 = steps 4 c := by
 have h := half_small ⟨c % 16, by omega⟩
 have e := steps_parts c 4
 rw [show (2 : Nat) ^ 4 = 16 from rfl] at e
 rw [e, h]
theorem u8_lt (x : UInt8) : x.toNat < 4294967296 := by have := x.toNat_lt; omega
theorem upd_lt (c : Nat) (x : UInt8) (h : c < 4294967296) : upd c x < 4294967296 := steps_lt 8 _ (xor_lt _ _ h (u8_lt x))
theorem crcF_lt (l : List UInt8) : ∀ c, c < 4294967296 → crcF c l < 4294967296 := by
 induction l with
 | nil => intro c h; exact h
 | cons x r ih => intro c h; exact ih _ (upd_lt c x h)
theorem crc_lt (l : List UInt8) : crc l < 4294967296 := xor_lt _ _ (crcF_lt l _ (by decide)) (by decide)
theorem crcF_append (l m : List UInt8) : ∀ c, crcF c (l ++ m) = crcF (crcF c l) m := by
 induction l with
 | nil => intro c; rfl
 | cons x r ih => intro c; exact ih _
theorem ofNat_toNat (n : Nat) (h : n < 256) : (UInt8.ofNat n).toNat = n := by simp [UInt8.toNat_ofNat']; omega
theorem upd_low (c d : Nat) : steps 8 (c ^^^ d) = upd c (UInt8.ofNat (d % 256)) ^^^ d / 256 := by
 unfold upd
 rw [ofNat_toNat _ (by omega)]
 conv => lhs; rw [← parts d 8]
 rw [show (2 : Nat) ^ 8 = 256 from rfl, Nat.xor_comm (256 * _), ← Nat.xor_assoc, steps_xor, show 256 * (d / 256) = 2 ^ 8 * (d / 256) from rfl, steps_up]
theorem crcF_le4 (c d : Nat) (hd : d < 4294967296) : crcF c (le4 d) = steps 32 (c ^^^ d) := by
 unfold le4
 simp only [crcF]
 rw [show (32 : Nat) = 8 + (8 + (8 + 8)) from rfl, steps_add, upd_low, steps_add, upd_low, steps_add, upd_low, upd_low]
 rw [show d / 256 / 256 = d / 65536 by omega, show d / 65536 / 256 = d / 16777216 by omega, show d / 16777216 / 256 = 0 by omega, Nat.xor_zero]
theorem rest_seal (l : List UInt8) : crcF ones (seal4 l) = steps 32 ones := by
 unfold seal4
 rw [crcF_append, crcF_le4 _ _ (crc_lt l)]
 unfold crc
 rw [xor_back]
theorem le4_length (c : Nat) : (le4 c).length = 4 := rfl
theorem seal4_length (l : List UInt8) : (seal4 l).length = l.length + 4 := by unfold seal4; rw [List.length_append, le4_length]
theorem seal4_take (l : List UInt8) : (seal4 l).take l.length = l := by unfold seal4; simp
def Burst (s : List UInt8) (k t i : Nat) (l : List UInt8) : Prop := l.length = s.length ∧ crcF ones l = crcF ones s ^^^ steps (8 * s.length - k) (t % 2 ^ i)
theorem Burst.start (s : List UInt8) (k t : Nat) : Burst s k t 0 s := ⟨rfl, by rw [Nat.pow_zero, Nat.mod_one, steps_zero, Nat.xor_zero]⟩
theorem Burst.told {m l : List UInt8} {k t : Nat} (h : Burst (seal4 m) k t 32 l) (ht : t < 4294967296) (h0 : t ≠ 0) (n : List UInt8) : l ≠ seal4 n := by
 rintro rfl
 have e := h.2
 rw [rest_seal, rest_seal, Nat.mod_eq_of_lt (by exact ht)] at e
 have e2 := congrArg (fun z => steps 32 ones ^^^ z) e
 simp only [Nat.xor_self, xor_back] at e2
 exact h0 (steps_null _ _ ht e2.symm)
theorem ones_sub (c : Nat) (h : c < 4294967296) : ones - c = c ^^^ ones := by
 apply Nat.eq_of_testBit_eq
 intro i
 have e : ones - c = 2 ^ 32 - (c + 1) := by unfold ones; omega
 rw [e, Nat.testBit_two_pow_sub_succ (by omega), Nat.testBit_xor, show ones = 2 ^ 32 - 1 from rfl, Nat.testBit_two_pow_sub_one]
 by_cases hi : i < 32
 ·simp [hi]
 ·have : c.testBit i = false := Nat.testBit_lt_two_pow (Nat.lt_of_lt_of_le (show c < 2 ^ 32 from h) (Nat.pow_le_pow_right (by omega) (by omega)))
  simp [hi, this]
end Go.Proofs.YtapiogcoipeinaaGreatDoor.Sm
