/-
  Groups as numbers: a set of volumes is the sum of 2^v, a change adds a volume or removes it; who belongs at a marker, and which change may follow. Plain theorems, no program of the project.
-/
import Derived.Test.YthoflpjmdhabmaaDoorPkMem
namespace Go.Proofs.YthoflpjmdhabmaaDoor.Mb
open Pk

/-! ### Sets -/
def bt (s v : Nat) : Bool := s.testBit v
def wit (s v : Nat) : Nat := s ||| 2 ^ v
def wout (s v : Nat) : Nat := s ^^^ (s &&& 2 ^ v)
theorem bt_wit (s v u : Nat) : bt (wit s v) u = (bt s u || decide (v = u)) := by
  simp only [bt, wit, Nat.testBit_or, Nat.testBit_two_pow]
theorem bt_wout (s v u : Nat) : bt (wout s v) u = (bt s u && !decide (v = u)) := by
  simp only [bt, wout, Nat.testBit_xor, Nat.testBit_and, Nat.testBit_two_pow]
  cases s.testBit u <;> cases decide (v = u) <;> rfl
theorem two_lt {v n : Nat} (h : v < n) : 2 ^ v < 2 ^ n := Nat.pow_lt_pow_right (by omega) h
theorem wit_lt {s v n : Nat} (h : s < 2 ^ n) (hv : v < n) : wit s v < 2 ^ n := Nat.or_lt_two_pow h (two_lt hv)
theorem wout_lt {s v n : Nat} (h : s < 2 ^ n) (hv : v < n) : wout s v < 2 ^ n := Nat.xor_lt_two_pow h (Nat.and_lt_two_pow s (two_lt hv))
theorem bt_zero (v : Nat) : bt 0 v = false := by simp [bt]
theorem bt_big {s v : Nat} (h : s < 16) (hv : 4 ≤ v) : bt s v = false := Nat.testBit_lt_two_pow (Nat.lt_of_lt_of_le h (Nat.pow_le_pow_right (n := 2) (by omega) hv : 2 ^ 4 ≤ 2 ^ v))
theorem bt_ext {s t : Nat} (hs : s < 16) (ht : t < 16) (h : ∀ v, v < 4 → bt s v = bt t v) : s = t := Nat.eq_of_testBit_eq fun v => by
  rcases Nat.lt_or_ge v 4 with hv | hv
  · exact h v hv
  · exact (bt_big hs hv).trans (bt_big ht hv).symm
/-- The volumes below k in a set. -/
def vols (s : Nat) : Nat → List Int
  | 0 => []
  | k + 1 => if bt s k then vols s k ++ [(k : Int)] else vols s k
theorem vols_mem (s : Nat) (x : Int) : ∀ k, x ∈ vols s k ↔ ∃ v : Nat, v < k ∧ x = (v : Int) ∧ bt s v = true
  | 0 => by simp [vols]
  | k + 1 => by
    have ih := vols_mem s x k
    unfold vols
    constructor
    · intro h
      by_cases hb : bt s k = true
      · rw [if_pos hb, List.mem_append] at h
        rcases h with h | h
        · obtain ⟨v, h1, h2⟩ := ih.1 h
          exact ⟨v, by omega, h2⟩
        · exact ⟨k, by omega, by simpa using h, hb⟩
      · rw [if_neg hb] at h
        obtain ⟨v, h1, h2⟩ := ih.1 h
        exact ⟨v, by omega, h2⟩
    · rintro ⟨v, h1, h2, h3⟩
      by_cases hk : v = k
      · subst hk
        rw [if_pos h3]
        simp [h2]
      · have := ih.2 ⟨v, by omega, h2, h3⟩
        split
        · exact List.mem_append_left _ this
        · exact this
theorem vols_len (s : Nat) : ∀ k, (vols s k).length ≤ k
  | 0 => Nat.le_refl _
  | k + 1 => by
    have := vols_len s k
    unfold vols
    split
    · simp; omega
    · omega
theorem vols_congr {s t : Nat} : ∀ k, (∀ v, v < k → bt s v = bt t v) → vols s k = vols t k
  | 0, _ => rfl
  | k + 1, h => by
    unfold vols
    rw [vols_congr k fun v hv => h v (by omega), h k (by omega)]
theorem vols_sixteen : ∀ s, s < 16 → ∀ v, v < 4 → (bt s v = false → (vols (wit s v) 4).length = (vols s 4).length + 1) ∧ (bt s v = true → (vols (wout s v) 4).length + 1 = (vols s 4).length ∧ wit s v = s) ∧ (bt s v = false → wout s v = s) := by decide
theorem vols_rise : ∀ s, s < 16 → ∀ j, j < 3 → ∀ x y, (vols s 4)[j]? = some x → (vols s 4)[j + 1]? = some y → x < y := by
  have h : ∀ s, s < 16 → ∀ j, j < 3 → (match (vols s 4)[j]?, (vols s 4)[j + 1]? with | some x, some y => decide (x < y) | _, _ => true) = true := by decide
  intro s hs j hj x y hx hy
  have := h s hs j hj
  rw [hx, hy] at this
  simpa using this

/-! ### Changes -/
structure Ch where
  m : Int
  v : Int
  r : Bool
instance : Inhabited Ch := ⟨⟨0, 0, false⟩⟩
def app (s : Nat) (c : Ch) : Nat := if c.r then wout s c.v.toNat else wit s c.v.toNat
theorem app_lt {s n : Nat} {c : Ch} (h : s < 2 ^ n) (hv : c.v < 4) (hn : 4 ≤ n) : app s c < 2 ^ n := by
  unfold app
  split
  · exact wout_lt h (by omega)
  · exact wit_lt h (by omega)
/-- Who belongs at a marker. -/
def atS : Nat → List Ch → Int → Nat
  | s, [], _ => s
  | s, c :: L, m => if m < c.m then s else atS (app s c) L m
/-- The marker of the last change. -/
def last (L : List Ch) : Int := (L.getLast?.map Ch.m).getD 0
theorem last_nil : last [] = 0 := rfl
theorem last_snoc (L : List Ch) (c : Ch) : last (L ++ [c]) = c.m := by simp [last]
theorem last_get {L : List Ch} {k : Nat} {c : Ch} (h : L[k]? = some c) (hk : k + 1 = L.length) : last L = c.m := by
  unfold last
  rw [List.getLast?_eq_getElem?, ← hk, Nat.add_sub_cancel, h]
  rfl
theorem atS_lt : ∀ (L : List Ch) (s n : Nat) (m : Int), s < 2 ^ n → 4 ≤ n → (∀ c ∈ L, c.v < 4) → atS s L m < 2 ^ n
  | [], s, n, m, h, _, _ => h
  | c :: L, s, n, m, h, hn, hv => by
    unfold atS
    split
    · exact h
    · exact atS_lt L _ n m (app_lt h (hv c (by simp)) hn) hn fun d hd => hv d (by simp [hd])
theorem atS_snoc_lt (c : Ch) (m : Int) (h : m < c.m) : ∀ (L : List Ch) (s : Nat), atS s (L ++ [c]) m = atS s L m
  | [], s => by simp [atS, h]
  | d :: L, s => by
    simp only [List.cons_append, atS]
    rw [atS_snoc_lt c m h L]
/-- Who belongs after all. -/
def nowS (s : Nat) (L : List Ch) : Nat := L.foldl app s
theorem atS_all (m : Int) : ∀ (L : List Ch) (s : Nat), (∀ d ∈ L, d.m ≤ m) → atS s L m = nowS s L
  | [], s, _ => rfl
  | d :: L, s, h => by
    have h1 := h d (by simp)
    simp only [atS, nowS, List.foldl_cons]
    rw [if_neg (by omega)]
    exact atS_all m L _ fun e he => h e (by simp [he])
theorem nowS_snoc (s : Nat) (L : List Ch) (c : Ch) : nowS s (L ++ [c]) = app (nowS s L) c := by simp [nowS]

/-- What is wrong with a change behind others. -/
def chk (s : Nat) (L : List Ch) (v m : Int) (r : Bool) : Int :=
  if ¬ (0 ≤ v ∧ v < 4) then 5 else if m ≤ last L then 10 else if 1152921504606846975 < m then 1 else if (bt (atS s L (last L)) v.toNat != r) = true then 9 else if 100 ≤ L.length then 6 else 0
/-- Changes of which each may follow those before. -/
inductive Fine (s : Nat) : List Ch → Prop
  | nil : Fine s []
  | snoc {L : List Ch} {c : Ch} : Fine s L → chk s L c.v c.m c.r = 0 → Fine s (L ++ [c])
theorem chk_zero {s : Nat} {L : List Ch} {v m : Int} {r : Bool} (h : chk s L v m r = 0) : (0 ≤ v ∧ v < 4) ∧ last L < m ∧ m ≤ 1152921504606846975 ∧ bt (atS s L (last L)) v.toNat = r ∧ L.length < 100 := by
  unfold chk at h
  split at h
  · cases h
  · rename_i h1
    split at h
    · cases h
    · rename_i h2
      split at h
      · cases h
      · rename_i h3
        split at h
        · cases h
        · rename_i h4
          split at h
          · cases h
          · rename_i h5
            exact ⟨Decidable.not_not.1 h1, by omega, by omega, by simpa using h4, by omega⟩
theorem chk_ok {s : Nat} {L : List Ch} {v m : Int} {r : Bool} (h1 : 0 ≤ v ∧ v < 4) (h2 : last L < m) (h3 : m ≤ 1152921504606846975) (h4 : bt (atS s L (last L)) v.toNat = r) (h5 : L.length < 100) : chk s L v m r = 0 := by
  unfold chk
  rw [if_neg (Decidable.not_not.2 h1), if_neg (by omega), if_neg (by omega), if_neg (by simp [h4]), if_neg (by omega)]
theorem chk_cases (s : Nat) (L : List Ch) (v m : Int) (r : Bool) : chk s L v m r = 0 ∨ chk s L v m r = 5 ∨ chk s L v m r = 10 ∨ chk s L v m r = 1 ∨ chk s L v m r = 9 ∨ chk s L v m r = 6 := by
  unfold chk
  split
  · simp
  · split
    · simp
    · split
      · simp
      · split
        · simp
        · split <;> simp
section
variable {s : Nat} {L : List Ch}
theorem Fine.len (h : Fine s L) : L.length ≤ 100 := by
  cases h with
  | nil => simp
  | snoc h hc =>
    have := (chk_zero hc).2.2.2.2
    simp only [List.length_append, List.length_cons, List.length_nil]
    omega
theorem Fine.last_le (h : Fine s L) : 0 ≤ last L ∧ last L ≤ 1152921504606846975 ∧ ∀ d ∈ L, (0 ≤ d.v ∧ d.v < 4) ∧ (1 ≤ d.m ∧ d.m ≤ last L) := by
  induction h with
  | nil => exact ⟨by decide, by decide, fun d hd => by cases hd⟩
  | snoc h hc ih =>
    obtain ⟨h1, h2, h3, _, _⟩ := chk_zero hc
    rw [last_snoc]
    refine ⟨by omega, h3, fun d hd => ?_⟩
    rcases List.mem_append.1 hd with hd | hd
    · have := ih.2.2 d hd
      exact ⟨this.1, this.2.1, by omega⟩
    · obtain rfl := List.mem_singleton.1 hd
      exact ⟨h1, by omega, Int.le_refl _⟩
theorem Fine.at_last (h : Fine s L) {m : Int} (hm : last L ≤ m) : atS s L m = nowS s L := atS_all m L s fun d hd => by have := (h.last_le.2.2 d hd).2.2; omega
theorem Fine.now (h : Fine s L) : atS s L (last L) = nowS s L := h.at_last (Int.le_refl _)
theorem Fine.lt (h : Fine s L) {n : Nat} (hs : s < 2 ^ n) (hn : 4 ≤ n) (m : Int) : atS s L m < 2 ^ n := atS_lt L s n m hs hn fun d hd => (h.last_le.2.2 d hd).1.2
theorem Fine.lt16 (h : Fine s L) (hs : s < 16) (m : Int) : atS s L m < 16 := h.lt (n := 4) hs (Nat.le_refl _) m
/-- One change more, at a marker. -/
theorem Fine.step (h : Fine s L) (c : Ch) {m : Int} (h1 : last L ≤ m) (h2 : c.m ≤ m) : atS s (L ++ [c]) m = app (atS s L m) c := by
  rw [atS_all m (L ++ [c]) s (fun d hd => by
    rcases List.mem_append.1 hd with hd | hd
    · have := (h.last_le.2.2 d hd).2.2
      omega
    · obtain rfl := List.mem_singleton.1 hd
      exact h2), nowS_snoc, h.at_last h1]
theorem Fine.take (h : Fine s L) : ∀ k, Fine s (L.take k) := by
  induction h with
  | nil => intro k; simp; exact Fine.nil
  | @snoc L c h hc ih =>
    intro k
    rcases Nat.lt_or_ge L.length k with hk | hk
    · rw [List.take_of_length_le (by simp; omega)]
      exact Fine.snoc h hc
    · rw [List.take_append_of_le_length hk]
      exact ih k
theorem Fine.at_get (h : Fine s L) {k : Nat} {c : Ch} (hc : L[k]? = some c) : chk s (L.take k) c.v c.m c.r = 0 ∧ last (L.take k) < c.m := by
  have h2 := h.take (k + 1)
  rw [List.take_add_one, hc] at h2
  generalize hX : L.take k ++ (some c).toList = X at h2
  cases h2 with
  | nil => simp at hX
  | @snoc M d h3 h4 =>
    obtain ⟨e1, e2⟩ := List.append_inj' (show L.take k ++ [c] = M ++ [d] from hX) rfl
    obtain rfl : c = d := by simpa using e2
    subst e1
    exact ⟨h4, (chk_zero h4).2.1⟩
/-- Whether a volume belongs, change by change. -/
theorem Fine.bit (h : Fine s L) {k : Nat} {c : Ch} (hc : L[k]? = some c) (m : Int) (v : Nat) : bt (atS s (L.take (k + 1)) m) v = if c.v.toNat = v ∧ c.m ≤ m then !c.r else bt (atS s (L.take k) m) v := by
  rw [List.take_add_one, hc]
  show bt (atS s (L.take k ++ [c]) m) v = _
  have hl := (h.at_get hc).2
  by_cases hm : c.m ≤ m
  · rw [(h.take k).step c (by omega) hm]
    unfold app
    cases hr : c.r with
    | true =>
      rw [if_pos rfl, bt_wout]
      by_cases e : c.v.toNat = v <;> simp [e, hm]
    | false =>
      rw [if_neg (by simp), bt_wit]
      by_cases e : c.v.toNat = v <;> simp [e, hm]
  · rw [if_neg (fun e => hm e.2), atS_snoc_lt c m (by omega)]
end

/-! ### The first volumes -/
/-- The set of the first volumes, or the first one that is wrong and its error. -/
def newS : Nat → List Int → Nat ⊕ (Int × Int)
  | s, [] => .inl s
  | s, v :: l => if ¬ (0 ≤ v ∧ v < 4) then .inr (v, 5) else if bt s v.toNat then .inr (v, 1) else newS (wit s v.toNat) l
theorem newS_lt : ∀ (l : List Int) (s t : Nat), s < 16 → newS s l = .inl t → t < 16
  | [], s, t, h, e => by simp only [newS, Sum.inl.injEq] at e; omega
  | v :: l, s, t, h, e => by
    unfold newS at e
    split at e
    · cases e
    · rename_i hv
      split at e
      · cases e
      · exact newS_lt l _ t (wit_lt (n := 4) h (by omega)) e
theorem newS_err : ∀ (l : List Int) (s : Nat) (v f : Int), newS s l = .inr (v, f) → f = 5 ∨ f = 1
  | [], s, v, f, e => by cases e
  | u :: l, s, v, f, e => by
    unfold newS at e
    split at e
    · cases e; exact Or.inl rfl
    · split at e
      · cases e; exact Or.inr rfl
      · exact newS_err l _ v f e

end Go.Proofs.YthoflpjmdhabmaaDoor.Mb
