/-
  The checksum CRC-32C on lists of bytes: one bit's step and its laws (it is linear, and no two numbers below 2^32 have one and the same step), half a byte, a whole list; what is sealed leaves one and the same rest; a bit that is turned turns the rest by a step of its own. Plain theorems on numbers and lists.
-/
namespace Go.Proofs.YtnmpckhlpkmojaaGreatDoor.Sm

abbrev poly : Nat := 2197175160
abbrev ones : Nat := 4294967295
def step (c : Nat) : Nat := c / 2 ^^^ c % 2 * poly
def steps : Nat → Nat → Nat
  | 0, c => c
  | n + 1, c => steps n (step c)
def upd (c : Nat) (x : UInt8) : Nat := steps 8 (c ^^^ x.toNat)
def crcF : Nat → List UInt8 → Nat
  | c, [] => c
  | c, x :: r => crcF (upd c x) r
def crc (l : List UInt8) : Nat := crcF ones l ^^^ ones
def le4 (c : Nat) : List UInt8 := [UInt8.ofNat (c % 256), UInt8.ofNat (c / 256 % 256), UInt8.ofNat (c / 65536 % 256), UInt8.ofNat (c / 16777216 % 256)]
def seal4 (l : List UInt8) : List UInt8 := l ++ le4 (crc l)

theorem xor_div (a b n : Nat) : (a ^^^ b) / 2 ^ n = a / 2 ^ n ^^^ b / 2 ^ n := by
  rw [← Nat.shiftRight_eq_div_pow, ← Nat.shiftRight_eq_div_pow, ← Nat.shiftRight_eq_div_pow, Nat.shiftRight_xor_distrib]
theorem xor_div2 (a b : Nat) : (a ^^^ b) / 2 = a / 2 ^^^ b / 2 := xor_div a b 1
theorem xor_mod (a b n : Nat) : (a ^^^ b) % 2 ^ n = a % 2 ^ n ^^^ b % 2 ^ n := Nat.xor_mod_two_pow
theorem xor_mod2 (a b : Nat) : (a ^^^ b) % 2 = a % 2 ^^^ b % 2 := xor_mod a b 1
theorem xor4 (a b c d : Nat) : (a ^^^ b) ^^^ (c ^^^ d) = (a ^^^ c) ^^^ (b ^^^ d) := by
  rw [Nat.xor_assoc, ← Nat.xor_assoc b c d, Nat.xor_comm b c, Nat.xor_assoc c b d, ← Nat.xor_assoc]
theorem xor_back (a b : Nat) : a ^^^ (a ^^^ b) = b := by rw [← Nat.xor_assoc, Nat.xor_self, Nat.zero_xor]

theorem step_xor (a b : Nat) : step (a ^^^ b) = step a ^^^ step b := by
  unfold step
  rw [xor_div2, xor_mod2, xor4]
  congr 1
  rcases Nat.mod_two_eq_zero_or_one a with h | h <;> rcases Nat.mod_two_eq_zero_or_one b with h' | h' <;> simp [h, h']
theorem steps_xor (n : Nat) : ∀ a b, steps n (a ^^^ b) = steps n a ^^^ steps n b := by
  induction n with
  | zero => intro a b; rfl
  | succ n ih => intro a b; simp only [steps]; rw [step_xor, ih]
theorem steps_add (m n c : Nat) : steps (m + n) c = steps n (steps m c) := by
  induction m generalizing c with
  | zero => rw [Nat.zero_add]; rfl
  | succ m ih => rw [Nat.add_right_comm]; simp only [steps]; exact ih _
theorem steps_zero (n : Nat) : steps n 0 = 0 := by
  induction n with
  | zero => rfl
  | succ n ih => exact ih
theorem step_lt (c : Nat) (h : c < 4294967296) : step c < 4294967296 := by
  unfold step
  have h1 : c / 2 < 2 ^ 32 := by omega
  have h2 : c % 2 * poly < 2 ^ 32 := by unfold poly; omega
  exact Nat.xor_lt_two_pow h1 h2
theorem steps_lt (n : Nat) : ∀ c, c < 4294967296 → steps n c < 4294967296 := by
  induction n with
  | zero => intro c h; exact h
  | succ n ih => intro c h; exact ih _ (step_lt c h)
theorem xor_lt (a b : Nat) (ha : a < 4294967296) (hb : b < 4294967296) : a ^^^ b < 4294967296 := Nat.xor_lt_two_pow (n := 32) ha hb
theorem xor_eq_zero (a b : Nat) (h : a ^^^ b = 0) : a = b := by
  have := xor_back a b
  rw [h, Nat.xor_zero] at this
  exact this
theorem step_null (c : Nat) (h : c < 4294967296) (h0 : step c = 0) : c = 0 := by
  have e := xor_eq_zero _ _ h0
  unfold poly at e
  omega
theorem steps_null (n : Nat) : ∀ c, c < 4294967296 → steps n c = 0 → c = 0 := by
  induction n with
  | zero => intro c _ h; exact h
  | succ n ih => intro c h h0; exact step_null c h (ih _ (step_lt c h) h0)

theorem step_even (c : Nat) : step (2 * c) = c := by
  unfold step
  rw [show 2 * c % 2 = 0 by omega, show 2 * c / 2 = c by omega, Nat.zero_mul, Nat.xor_zero]
theorem steps_up (n : Nat) : ∀ c, steps n (2 ^ n * c) = c := by
  induction n with
  | zero => intro c; simp [steps]
  | succ n ih =>
    intro c
    simp only [steps]
    rw [Nat.pow_succ, Nat.mul_comm (2 ^ n) 2, Nat.mul_assoc, step_even, ih]
/-- A number is what lies above n bits and what lies below, turned one by the other. -/
theorem parts (c n : Nat) : 2 ^ n * (c / 2 ^ n) ^^^ c % 2 ^ n = c := by
  apply Nat.eq_of_testBit_eq
  intro i
  rw [Nat.testBit_xor, Nat.testBit_two_pow_mul, Nat.testBit_div_two_pow, Nat.testBit_mod_two_pow]
  by_cases h : i < n
  · simp [h, Nat.not_le.2 h]
  · have h' : n ≤ i := by omega
    simp [h, h', Nat.sub_add_cancel h']
theorem steps_parts (c n : Nat) : steps n c = c / 2 ^ n ^^^ steps n (c % 2 ^ n) := by
  conv => lhs; rw [← parts c n]
  rw [steps_xor, steps_up]

def halves : List Nat := [0, 274646895, 549293790, 820201905, 1098587580, 1361435347, 1640403810, 1905808397, 2197175160, 2460548119, 2722870694, 2987750089, 3280807620, 3553878443, 3811616794, 4084100981]
theorem half_small : ∀ r : Fin 16, steps 4 r.val = halves.getD r.val 0 := by decide
/-- Four steps by the table. -/
theorem half (c : Nat) : c / 16 ^^^ halves.getD (c % 16) 0 = steps 4 c := by
  have h := half_small ⟨c % 16, by omega⟩
  have e := steps_parts c 4
  rw [show (2 : Nat) ^ 4 = 16 from rfl] at e
  rw [e, h]

theorem u8_lt (x : UInt8) : x.toNat < 4294967296 := by have := x.toNat_lt; omega
theorem upd_lt (c : Nat) (x : UInt8) (h : c < 4294967296) : upd c x < 4294967296 := steps_lt 8 _ (xor_lt _ _ h (u8_lt x))
theorem crcF_lt (l : List UInt8) : ∀ c, c < 4294967296 → crcF c l < 4294967296 := by
  induction l with
  | nil => intro c h; exact h
  | cons x r ih => intro c h; exact ih _ (upd_lt c x h)
theorem crc_lt (l : List UInt8) : crc l < 4294967296 := xor_lt _ _ (crcF_lt l _ (by decide)) (by decide)
theorem crcF_append (l m : List UInt8) : ∀ c, crcF c (l ++ m) = crcF (crcF c l) m := by
  induction l with
  | nil => intro c; rfl
  | cons x r ih => intro c; exact ih _
theorem upd_xor (a b : Nat) (x : UInt8) : upd (a ^^^ b) x = upd a x ^^^ steps 8 b := by
  unfold upd
  rw [Nat.xor_assoc, Nat.xor_comm b, ← Nat.xor_assoc, steps_xor]
theorem crcF_xor (l : List UInt8) : ∀ a b, crcF (a ^^^ b) l = crcF a l ^^^ steps (8 * l.length) b := by
  induction l with
  | nil => intro a b; rfl
  | cons x r ih =>
    intro a b
    simp only [crcF]
    rw [upd_xor, ih, ← steps_add, List.length_cons, show 8 + 8 * r.length = 8 * (r.length + 1) by omega]
theorem upd_turn (c : Nat) (x y : UInt8) : upd c (x ^^^ y) = upd c x ^^^ steps 8 y.toNat := by
  unfold upd
  rw [UInt8.toNat_xor, ← Nat.xor_assoc, steps_xor]
/-- A byte that is turned. -/
theorem crcF_set (l : List UInt8) : ∀ (c q : Nat) (x y : UInt8), l[q]? = some x → crcF c (l.set q (x ^^^ y)) = crcF c l ^^^ steps (8 * (l.length - q)) y.toNat := by
  induction l with
  | nil => intro c q x y h; simp at h
  | cons z r ih =>
    intro c q x y h
    cases q with
    | zero =>
      simp only [List.getElem?_cons_zero, Option.some.injEq] at h
      subst h
      simp only [List.set_cons_zero, crcF]
      rw [upd_turn, crcF_xor, ← steps_add, List.length_cons, Nat.sub_zero, show 8 + 8 * r.length = 8 * (r.length + 1) by omega]
    | succ q =>
      simp only [List.set_cons_succ, crcF]
      rw [ih _ q x y (by simpa using h), List.length_cons, show r.length + 1 - (q + 1) = r.length - q by omega]
/-- Bytes turned one by another. -/
theorem crcF_zip : ∀ (l m : List UInt8) (a b : Nat), l.length = m.length → crcF (a ^^^ b) (List.zipWith (· ^^^ ·) l m) = crcF a l ^^^ crcF b m
  | [], [], a, b, _ => rfl
  | x :: r, y :: s, a, b, h => by
    simp only [List.zipWith_cons_cons, crcF]
    have e : upd (a ^^^ b) (x ^^^ y) = upd a x ^^^ upd b y := by
      unfold upd
      rw [UInt8.toNat_xor, xor4, steps_xor]
    rw [e]
    exact crcF_zip r s _ _ (by simpa using h)
theorem crc_three (a b c : List UInt8) (h1 : a.length = b.length) (h2 : b.length = c.length) :
    crc (List.zipWith (· ^^^ ·) (List.zipWith (· ^^^ ·) a b) c) = crc a ^^^ crc b ^^^ crc c := by
  have e1 := crcF_zip (List.zipWith (· ^^^ ·) a b) c (ones ^^^ ones) ones (by rw [List.length_zipWith]; omega)
  rw [crcF_zip a b _ _ h1, Nat.xor_self, Nat.zero_xor] at e1
  unfold crc
  rw [e1]
  rw [xor4 (crcF ones a) ones (crcF ones b) ones, Nat.xor_self, Nat.xor_zero, Nat.xor_assoc]

theorem ofNat_toNat (n : Nat) (h : n < 256) : (UInt8.ofNat n).toNat = n := by simp [UInt8.toNat_ofNat']; omega
theorem upd_low (c d : Nat) : steps 8 (c ^^^ d) = upd c (UInt8.ofNat (d % 256)) ^^^ d / 256 := by
  unfold upd
  rw [ofNat_toNat _ (by omega)]
  conv => lhs; rw [← parts d 8]
  rw [show (2 : Nat) ^ 8 = 256 from rfl, Nat.xor_comm (256 * _), ← Nat.xor_assoc, steps_xor, show 256 * (d / 256) = 2 ^ 8 * (d / 256) from rfl, steps_up]
theorem crcF_le4 (c d : Nat) (hd : d < 4294967296) : crcF c (le4 d) = steps 32 (c ^^^ d) := by
  unfold le4
  simp only [crcF]
  rw [show (32 : Nat) = 8 + (8 + (8 + 8)) from rfl, steps_add, upd_low, steps_add, upd_low, steps_add, upd_low, upd_low]
  rw [show d / 256 / 256 = d / 65536 by omega, show d / 65536 / 256 = d / 16777216 by omega, show d / 16777216 / 256 = 0 by omega, Nat.xor_zero]
/-- What is sealed leaves one and the same rest. -/
theorem rest_seal (l : List UInt8) : crcF ones (seal4 l) = steps 32 ones := by
  unfold seal4
  rw [crcF_append, crcF_le4 _ _ (crc_lt l)]
  unfold crc
  rw [xor_back]
theorem le4_length (c : Nat) : (le4 c).length = 4 := rfl
theorem seal4_length (l : List UInt8) : (seal4 l).length = l.length + 4 := by unfold seal4; rw [List.length_append, le4_length]
theorem seal4_take (l : List UInt8) : (seal4 l).take l.length = l := by unfold seal4; simp

theorem steps_pow (n i : Nat) : steps (n + i) (2 ^ i) = steps n 1 := by
  rw [Nat.add_comm, steps_add]
  have := steps_up i 1
  rw [Nat.mul_one] at this
  rw [this]
/-- A bit that is turned, counted from where the burst begins. -/
theorem steps_place (len k i : Nat) (h : k + 32 ≤ 8 * len) (hi : i < 32) : steps (8 * (len - (k + i) / 8)) (2 ^ ((k + i) % 8)) = steps (8 * len - k) (2 ^ i) := by
  obtain ⟨n, hn⟩ : ∃ n, 8 * len - k = n + i := ⟨8 * len - k - i, by omega⟩
  have e : 8 * (len - (k + i) / 8) = n + (k + i) % 8 := by omega
  rw [hn, e, steps_pow, steps_pow]
theorem low_next (t i : Nat) : t % 2 ^ (i + 1) = t % 2 ^ i ^^^ t / 2 ^ i % 2 * 2 ^ i := by
  have e := parts (t % 2 ^ (i + 1)) i
  have h1 : t % 2 ^ (i + 1) / 2 ^ i = t / 2 ^ i % 2 := by rw [Nat.pow_succ, Nat.mod_mul_right_div_self]
  have h2 : t % 2 ^ (i + 1) % 2 ^ i = t % 2 ^ i := by rw [Nat.pow_succ, Nat.mod_mul_right_mod]
  rw [h1, h2, Nat.xor_comm, Nat.mul_comm] at e
  exact e.symm
/-- How a burst stands behind i bits. -/
def Burst (s : List UInt8) (k t i : Nat) (l : List UInt8) : Prop := l.length = s.length ∧ crcF ones l = crcF ones s ^^^ steps (8 * s.length - k) (t % 2 ^ i)
theorem Burst.start (s : List UInt8) (k t : Nat) : Burst s k t 0 s := ⟨rfl, by rw [Nat.pow_zero, Nat.mod_one, steps_zero, Nat.xor_zero]⟩
theorem Burst.stay {s l : List UInt8} {k t i : Nat} (h : Burst s k t i l) (h0 : t / 2 ^ i % 2 = 0) : Burst s k t (i + 1) l := by
  refine ⟨h.1, ?_⟩
  rw [low_next, h0, Nat.zero_mul, Nat.xor_zero]
  exact h.2
theorem pow_byte (r : Nat) (h : r < 8) : (2 : Nat) ^ r < 256 := Nat.pow_lt_pow_right (by omega) (n := 8) h
theorem Burst.turn {s l : List UInt8} {k t i : Nat} (h : Burst s k t i l) (h1 : t / 2 ^ i % 2 = 1) (hk : k + 32 ≤ 8 * s.length) (hi : i < 32) (x : UInt8) (hx : l[(k + i) / 8]? = some x) :
    Burst s k t (i + 1) (l.set ((k + i) / 8) (x ^^^ UInt8.ofNat (2 ^ ((k + i) % 8)))) := by
  refine ⟨by rw [List.length_set]; exact h.1, ?_⟩
  rw [crcF_set _ _ _ _ _ hx, h.1, h.2, ofNat_toNat _ (pow_byte _ (Nat.mod_lt _ (by omega))), steps_place _ _ _ hk hi, low_next, h1, Nat.one_mul, steps_xor, Nat.xor_assoc]
/-- A burst is told. -/
theorem Burst.told {m l : List UInt8} {k t : Nat} (h : Burst (seal4 m) k t 32 l) (ht : t < 4294967296) (h0 : t ≠ 0) (n : List UInt8) : l ≠ seal4 n := by
  rintro rfl
  have e := h.2
  rw [rest_seal, rest_seal, Nat.mod_eq_of_lt (by exact ht)] at e
  have e2 := congrArg (fun z => steps 32 ones ^^^ z) e
  simp only [Nat.xor_self, xor_back] at e2
  exact h0 (steps_null _ _ ht e2.symm)

theorem ones_sub (c : Nat) (h : c < 4294967296) : ones - c = c ^^^ ones := by
  apply Nat.eq_of_testBit_eq
  intro i
  have e : ones - c = 2 ^ 32 - (c + 1) := by unfold ones; omega
  rw [e, Nat.testBit_two_pow_sub_succ (by omega), Nat.testBit_xor, show ones = 2 ^ 32 - 1 from rfl, Nat.testBit_two_pow_sub_one]
  by_cases hi : i < 32
  · simp [hi]
  · have : c.testBit i = false := Nat.testBit_lt_two_pow (Nat.lt_of_lt_of_le (show c < 2 ^ 32 from h) (Nat.pow_le_pow_right (by omega) (by omega)))
    simp [hi, this]
theorem crc_nine : crc [49, 50, 51, 52, 53, 54, 55, 56, 57] = 3808858755 := by decide +kernel

/-- b[:n] where n = len(b) - 4, sealed again, told by the bytes. -/
theorem open_iff (l : List UInt8) (n : Nat) (h : l.length = n + 4) : seal4 (l.take n) = l ↔ ∃ m, l = seal4 m := by
  constructor
  · intro e
    exact ⟨_, e.symm⟩
  · rintro ⟨m, rfl⟩
    have hm : m.length = n := by rw [seal4_length] at h; omega
    subst hm
    rw [seal4_take]

end Go.Proofs.YtnmpckhlpkmojaaGreatDoor.Sm
