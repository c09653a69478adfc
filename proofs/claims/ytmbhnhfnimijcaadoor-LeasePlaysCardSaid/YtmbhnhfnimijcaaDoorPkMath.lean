/-
  Plain facts on the varint of at most nine groups of seven bits, lowest first: laying a number and reading it back are inverse, a cut text is too short, and what is read whole is just what is laid. No program, no premise beyond those in each theorem.
-/
namespace Go.Proofs.YtmbhnhfnimijcaaDoor.Pk

/-- The bytes of n, with at most k + 1 groups. -/
def encF : Nat → Nat → List UInt8
  | 0, n => [UInt8.ofNat n]
  | k + 1, n => if n < 128 then [UInt8.ofNat n] else UInt8.ofNat (n % 128 + 128) :: encF k (n / 128)

def enc (n : Nat) : List UInt8 := encF 8 n

/-- What k + 1 groups can hold where the ninth holds four bits. -/
def lim (k : Nat) : Nat := 16 * 128 ^ k

theorem lim_succ (k : Nat) : lim (k + 1) = 128 * lim k := by simp only [lim, Nat.pow_succ]; omega
theorem lim_eight : lim 8 = 1152921504606846976 := by decide

/-- What is read from place i on, with acc read so far: the number, how many bytes it took in all, what was wrong. -/
def decF : Nat → Nat → List UInt8 → Nat × Nat × Nat
  | _, _, [] => (0, 0, 2)
  | i, acc, c :: r =>
    if 1152921504606846975 < acc + c.toNat % 128 * 128 ^ i ∨ (128 ≤ c.toNat ∧ i = 8) then (0, 0, 1)
    else if c.toNat = 0 ∧ 0 < i then (0, 0, 1)
    else if c.toNat < 128 then (acc + c.toNat % 128 * 128 ^ i, i + 1, 0)
    else decF (i + 1) (acc + c.toNat % 128 * 128 ^ i) r

def dec (l : List UInt8) : Nat × Nat × Nat := decF 0 0 l

theorem ofNat_toNat (n : Nat) (h : n < 256) : (UInt8.ofNat n).toNat = n := by
  rw [UInt8.toNat_ofNat']; omega

theorem pow_le (i : Nat) (h : i ≤ 8) : 128 ^ i ≤ 128 ^ 8 := Nat.pow_le_pow_right (by omega) h
theorem pow_le7 (i : Nat) (h : i ≤ 7) : 128 ^ (i + 1) ≤ 128 ^ 8 := Nat.pow_le_pow_right (by omega) (by omega)
theorem pow8 : 128 ^ 8 = 72057594037927936 := by decide

/-- One group on: acc stays below the next place's weight. -/
theorem acc_lt (i acc d : Nat) (h : acc < 128 ^ i) (hd : d < 128) : acc + d * 128 ^ i < 128 ^ (i + 1) := by
  have h1 : d * 128 ^ i ≤ 127 * 128 ^ i := Nat.mul_le_mul_right _ (by omega)
  rw [Nat.pow_succ]; omega

theorem acc_le (i acc d : Nat) (hi : i ≤ 7) (h : acc < 128 ^ i) (hd : d < 128) : acc + d * 128 ^ i ≤ 1152921504606846975 := by
  have := acc_lt i acc d h hd
  have := pow_le7 i hi
  rw [pow8] at this
  omega

theorem split_mul (n P : Nat) : n % 128 * P + n / 128 * (P * 128) = n * P := by
  have h : n = n % 128 + n / 128 * 128 := by omega
  calc n % 128 * P + n / 128 * (P * 128) = (n % 128 + n / 128 * 128) * P := by
        rw [Nat.add_mul, Nat.mul_comm P 128, Nat.mul_assoc]
    _ = n * P := by rw [← h]

theorem encF_pos (k n : Nat) : 0 < (encF k n).length := by
  cases k with
  | zero => simp [encF]
  | succ k => unfold encF; split <;> simp

theorem encF_le (k n : Nat) : (encF k n).length ≤ k + 1 := by
  induction k generalizing n with
  | zero => simp [encF]
  | succ k ih =>
    unfold encF
    split
    · simp
    · have := ih (n / 128); simp; omega

theorem enc_pos (n : Nat) : 0 < (enc n).length := encF_pos 8 n
theorem enc_le (n : Nat) : (enc n).length ≤ 9 := encF_le 8 n

/-- ONE STEP OF READING, by what the byte is. -/
theorem decF_last (i acc : Nat) (c : UInt8) (r : List UInt8) (h1 : acc + c.toNat * 128 ^ i ≤ 1152921504606846975) (h2 : c.toNat < 128) (h3 : ¬ (c.toNat = 0 ∧ 0 < i)) :
    decF i acc (c :: r) = (acc + c.toNat * 128 ^ i, i + 1, 0) := by
  have e : c.toNat % 128 = c.toNat := Nat.mod_eq_of_lt h2
  unfold decF
  rw [e, if_neg (by omega), if_neg h3, if_pos h2]

theorem decF_more (i acc : Nat) (c : UInt8) (r : List UInt8) (h1 : acc + c.toNat % 128 * 128 ^ i ≤ 1152921504606846975) (h2 : 128 ≤ c.toNat) (h3 : i ≠ 8) :
    decF i acc (c :: r) = decF (i + 1) (acc + c.toNat % 128 * 128 ^ i) r := by
  conv => lhs; unfold decF
  rw [if_neg (by omega), if_neg (by omega), if_neg (by omega)]

theorem decF_encF (k : Nat) : ∀ (i acc n : Nat) (r : List UInt8), i + k = 8 → acc < 128 ^ i → n < lim k → (0 < i → 0 < n) →
    decF i acc (encF k n ++ r) = (acc + n * 128 ^ i, i + (encF k n).length, 0) := by
  induction k with
  | zero =>
    intro i acc n r hi ha hn hp
    have hi8 : i = 8 := by omega
    subst hi8
    have hn16 : n < 16 := by simpa [lim] using hn
    have e := ofNat_toNat n (by omega)
    simp only [encF, List.cons_append, List.nil_append, List.length_cons, List.length_nil]
    rw [decF_last 8 acc _ r (by rw [e]; rw [pow8] at *; omega) (by omega) (by rw [e]; omega), e]
  | succ k ih =>
    intro i acc n r hi ha hn hp
    by_cases h : n < 128
    · have e := ofNat_toNat n (by omega)
      have hb := acc_le i acc n (by omega) ha h
      have hen : encF (k + 1) n = [UInt8.ofNat n] := by unfold encF; rw [if_pos h]
      rw [hen]
      simp only [List.cons_append, List.nil_append, List.length_cons, List.length_nil]
      rw [decF_last i acc _ r (by rw [e]; omega) (by omega) (by rw [e]; omega), e]
    · have e := ofNat_toNat (n % 128 + 128) (by omega)
      have em : (UInt8.ofNat (n % 128 + 128)).toNat % 128 = n % 128 := by rw [e]; omega
      have hb := acc_le i acc (n % 128) (by omega) ha (by omega)
      have hl := acc_lt i acc (n % 128) ha (by omega)
      have hen : encF (k + 1) n = UInt8.ofNat (n % 128 + 128) :: encF k (n / 128) := by conv => lhs; unfold encF
                                                                                        rw [if_neg h]
      have hs := split_mul n (128 ^ i)
      rw [hen]
      simp only [List.cons_append, List.length_cons]
      rw [decF_more i acc _ _ (by rw [em]; omega) (by omega) (by omega), em,
        ih (i + 1) _ (n / 128) r (by omega) hl (by rw [lim_succ] at hn; omega) (by omega)]
      rw [Nat.pow_succ]
      refine Prod.ext ?_ (Prod.ext ?_ rfl)
      · show acc + n % 128 * 128 ^ i + n / 128 * (128 ^ i * 128) = acc + n * 128 ^ i
        omega
      · show i + 1 + (encF k (n / 128)).length = i + ((encF k (n / 128)).length + 1)
        omega

/-- WHAT IS LAID IS READ. -/
theorem dec_enc (n : Nat) (r : List UInt8) (h : n < 1152921504606846976) : dec (enc n ++ r) = (n, (enc n).length, 0) := by
  have := decF_encF 8 0 0 n r (by omega) (by decide) (by rw [lim_eight]; exact h) (by omega)
  simpa [dec, enc] using this

theorem decF_cut (k : Nat) : ∀ (i acc n j : Nat), i + k = 8 → acc < 128 ^ i → n < lim k → (0 < i → 0 < n) → j < (encF k n).length →
    decF i acc ((encF k n).take j) = (0, 0, 2) := by
  induction k with
  | zero =>
    intro i acc n j hi ha hn hp hj
    have : j = 0 := by simpa [encF] using hj
    subst this
    simp [decF]
  | succ k ih =>
    intro i acc n j hi ha hn hp hj
    cases j with
    | zero => simp [decF]
    | succ j =>
      by_cases h : n < 128
      · have hen : encF (k + 1) n = [UInt8.ofNat n] := by unfold encF; rw [if_pos h]
        rw [hen] at hj
        simp at hj
      · have e := ofNat_toNat (n % 128 + 128) (by omega)
        have em : (UInt8.ofNat (n % 128 + 128)).toNat % 128 = n % 128 := by rw [e]; omega
        have hb := acc_le i acc (n % 128) (by omega) ha (by omega)
        have hl := acc_lt i acc (n % 128) ha (by omega)
        have hen : encF (k + 1) n = UInt8.ofNat (n % 128 + 128) :: encF k (n / 128) := by conv => lhs; unfold encF
                                                                                          rw [if_neg h]
        rw [hen] at hj ⊢
        simp only [List.take_succ_cons]
        rw [decF_more i acc _ _ (by rw [em]; omega) (by omega) (by omega), em]
        exact ih (i + 1) _ (n / 128) j (by omega) hl (by rw [lim_succ] at hn; omega) (by omega) (by simpa using hj)

theorem dec_cut (n j : Nat) (h : n < 1152921504606846976) (hj : j < (enc n).length) : dec ((enc n).take j) = (0, 0, 2) :=
  decF_cut 8 0 0 n j (by omega) (by decide) (by rw [lim_eight]; exact h) (by omega) hj

/-- WHAT IS READ WAS LAID SO. -/
theorem decF_ok (k : Nat) : ∀ (i acc : Nat) (l : List UInt8) (n s : Nat), i + k = 8 → acc < 128 ^ i → decF i acc l = (n, s, 0) →
    ∃ q m, n = acc + q * 128 ^ i ∧ q < lim k ∧ s = i + m ∧ m = (encF k q).length ∧ m ≤ l.length ∧ l.take m = encF k q := by
  induction k with
  | zero =>
    intro i acc l n s hi ha hd
    have hi8 : i = 8 := by omega
    subst hi8
    cases l with
    | nil => simp [decF] at hd
    | cons c r =>
      unfold decF at hd
      split at hd
      · simp at hd
      · split at hd
        · simp at hd
        · split at hd
          · rename_i h1 h2 h3
            simp only [Prod.mk.injEq, and_true] at hd
            have e : c.toNat % 128 = c.toNat := Nat.mod_eq_of_lt h3
            rw [e] at h1 hd
            rw [pow8] at h1
            refine ⟨c.toNat, 1, hd.1.symm, ?_, hd.2.symm, by simp [encF], by simp, ?_⟩
            · simp only [lim, Nat.pow_zero]; omega
            · simp [encF]
          · rename_i h1 h2 h3
            exact absurd (Or.inr ⟨by omega, rfl⟩) h1
  | succ k ih =>
    intro i acc l n s hi ha hd
    cases l with
    | nil => simp [decF] at hd
    | cons c r =>
      unfold decF at hd
      split at hd
      · simp at hd
      · split at hd
        · simp at hd
        · split at hd
          · rename_i h1 h2 h3
            simp only [Prod.mk.injEq, and_true] at hd
            have e : c.toNat % 128 = c.toNat := Nat.mod_eq_of_lt h3
            rw [e] at hd
            have hen : encF (k + 1) c.toNat = [c] := by unfold encF; rw [if_pos h3]; simp
            refine ⟨c.toNat, 1, hd.1.symm, ?_, hd.2.symm, by rw [hen]; rfl, by simp, ?_⟩
            · rw [lim_succ]
              have : 0 < lim k := by unfold lim; exact Nat.mul_pos (by omega) (Nat.pow_pos (by omega))
              omega
            · rw [hen]; simp
          · rename_i h1 h2 h3
            have hl := acc_lt i acc (c.toNat % 128) ha (by omega)
            obtain ⟨q, m, hn, hq, hs, hm, hle, htk⟩ := ih (i + 1) _ r n s (by omega) hl hd
            have hc : c.toNat < 256 := c.toNat_lt
            have hcm : (c.toNat % 128 + 128) = c.toNat := by omega
            by_cases hq0 : q = 0
            · exfalso
              subst hq0
              have he : encF k 0 = [0] := by cases k <;> simp [encF]
              rw [he] at hm htk
              simp at hm
              subst hm
              cases r with
              | nil => simp at hle
              | cons d r' =>
                simp at htk
                subst htk
                unfold decF at hd
                split at hd
                · simp at hd
                · rw [if_pos ⟨by decide, by omega⟩] at hd
                  simp at hd
            · have hdiv : (c.toNat % 128 + q * 128) / 128 = q := by omega
              have hmod : (c.toNat % 128 + q * 128) % 128 = c.toNat % 128 := by omega
              have hen : encF (k + 1) (c.toNat % 128 + q * 128) = c :: encF k q := by
                conv => lhs; unfold encF
                rw [if_neg (by omega), hdiv, hmod, hcm]
                simp
              refine ⟨c.toNat % 128 + q * 128, m + 1, ?_, ?_, by omega, by rw [hen, hm]; rfl, by simp; omega, ?_⟩
              · rw [hn, Nat.add_mul, Nat.pow_succ, Nat.mul_assoc, Nat.mul_comm 128 (128 ^ i)]; omega
              · rw [lim_succ]; omega
              · rw [hen, List.take_succ_cons, htk]

theorem dec_ok (l : List UInt8) (n s : Nat) (h : dec l = (n, s, 0)) : n < 1152921504606846976 ∧ s = (enc n).length ∧ s ≤ l.length ∧ l.take s = enc n := by
  obtain ⟨q, m, hn, hq, hs, hm, hle, htk⟩ := decF_ok 8 0 0 l n s (by omega) (by decide) h
  have e : n = q := by simpa using hn
  subst e
  have e2 : s = m := by omega
  subst e2
  rw [lim_eight] at hq
  exact ⟨hq, hm, hle, htk⟩

/-- What is wrong is 1 or 2, and then nothing is read. -/
theorem decF_bad (l : List UInt8) : ∀ (i acc : Nat), (decF i acc l).2.2 = 0 ∨ decF i acc l = (0, 0, 1) ∨ decF i acc l = (0, 0, 2) := by
  induction l with
  | nil => intro i acc; simp [decF]
  | cons c r ih =>
    intro i acc
    unfold decF
    split
    · simp
    · split
      · simp
      · split
        · simp
        · exact ih _ _

theorem dec_cases (l : List UInt8) : (∃ n s, dec l = (n, s, 0) ∧ n < 1152921504606846976 ∧ s ≤ l.length) ∨ dec l = (0, 0, 1) ∨ dec l = (0, 0, 2) := by
  rcases decF_bad l 0 0 with h | h | h
  · left
    have e : dec l = ((dec l).1, (dec l).2.1, 0) := by
      refine Prod.ext rfl (Prod.ext rfl ?_)
      exact h
    have := dec_ok l _ _ e
    exact ⟨_, _, e, this.1, this.2.2.1⟩
  · exact .inr (.inl h)
  · exact .inr (.inr h)

theorem encF_mono (k : Nat) : ∀ n m, n ≤ m → (encF k n).length ≤ (encF k m).length := by
  induction k with
  | zero => intro n m _; simp [encF]
  | succ k ih =>
    intro n m h
    by_cases hn : n < 128
    · have hen : encF (k + 1) n = [UInt8.ofNat n] := by unfold encF; rw [if_pos hn]
      rw [hen]
      exact encF_pos (k + 1) m
    · have hen : encF (k + 1) n = UInt8.ofNat (n % 128 + 128) :: encF k (n / 128) := by conv => lhs; unfold encF
                                                                                        rw [if_neg hn]
      have hem : encF (k + 1) m = UInt8.ofNat (m % 128 + 128) :: encF k (m / 128) := by conv => lhs; unfold encF
                                                                                        rw [if_neg (by omega)]
      rw [hen, hem]
      simp only [List.length_cons]
      have := ih (n / 128) (m / 128) (Nat.div_le_div_right h)
      omega

theorem enc_mono (n m : Nat) (h : n ≤ m) : (enc n).length ≤ (enc m).length := encF_mono 8 n m h

theorem enc_inj (n m : Nat) (hn : n < 1152921504606846976) (hm : m < 1152921504606846976) (h : enc n = enc m) : n = m := by
  have h1 := dec_enc n [] hn
  have h2 := dec_enc m [] hm
  rw [h, h2] at h1
  exact (congrArg Prod.fst h1).symm

/-- The clamp. -/
def clamp (n : Int) : Nat := (max 0 (min n 1152921504606846975)).toNat

theorem clamp_lt (n : Int) : clamp n < 1152921504606846976 := by unfold clamp; omega

end Go.Proofs.YtmbhnhfnimijcaaDoor.Pk
