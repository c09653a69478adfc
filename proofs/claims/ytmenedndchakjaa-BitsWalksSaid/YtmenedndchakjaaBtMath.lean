/-
  Sets of blocks as lists of eight truth values: put, has, the blocks that are in, union, difference, the text of digits. Plain theorems, of no function.
-/
import Derived.Test.YtmenedndchakjaaSmStr
namespace Go.Proofs.Ytmenedndchakjaa.Bt
open Go.RowKit
open Pk Sm

abbrev BSet := List Bool
def empty : BSet := List.replicate 8 false
theorem empty_length : empty.length = 8 := rfl
/-- s with b, or without. -/
def put (S : BSet) (b : Int) (v : Bool) : BSet := if 0 ≤ b ∧ b < 8 then S.set b.toNat v else S
def has (S : BSet) (b : Int) : Bool := if 0 ≤ b ∧ b < 8 then S[b.toNat]?.getD false else false
def of (l : List Int) : BSet := l.foldl (fun S b => put S b true) empty

theorem put_length (S : BSet) (b : Int) (v : Bool) : (put S b v).length = S.length := by unfold put; split <;> simp
theorem put_in (S : BSet) (k : Nat) (v : Bool) (h : k < 8) : put S (k : Int) v = S.set k v := by
  unfold put
  rw [if_pos ⟨by omega, by omega⟩, Int.toNat_natCast]
theorem put_out (S : BSet) (b : Int) (v : Bool) (h : b < 0 ∨ 8 ≤ b) : put S b v = S := by
  unfold put
  rw [if_neg (by omega)]
theorem foldl_put_length (v : Bool) : ∀ (l : List Int) (S : BSet), (l.foldl (fun S b => put S b v) S).length = S.length
  | [], _ => rfl
  | b :: l, S => by rw [List.foldl_cons, foldl_put_length v l, put_length]
theorem of_length (l : List Int) : (of l).length = 8 := foldl_put_length true l empty
theorem of_snoc (l : List Int) (b : Int) : of (l ++ [b]) = put (of l) b true := by simp [of]

theorem has_in (S : BSet) (k : Nat) (h : k < 8) : has S (k : Int) = S[k]?.getD false := by
  unfold has
  rw [if_pos ⟨by omega, by omega⟩, Int.toNat_natCast]
theorem has_out (S : BSet) (b : Int) (h : b < 0 ∨ 8 ≤ b) : has S b = false := by
  unfold has
  rw [if_neg (by omega)]

/-- The blocks that are in, each with its word that it is. -/
abbrev On (S : BSet) := { k : Nat // S[k]? = some true }
theorem On.lt {S : BSet} (hS : S.length = 8) (x : On S) : x.1 < 8 := by
  have := (List.getElem?_eq_some_iff.1 x.2).1
  omega
def upto (S : BSet) : Nat → List (On S)
  | 0 => []
  | k + 1 => upto S k ++ (if h : S[k]? = some true then [⟨k, h⟩] else [])
def ones (S : BSet) : List (On S) := upto S 8
theorem upto_yes {S : BSet} {k : Nat} (h : S[k]? = some true) : upto S (k + 1) = upto S k ++ [⟨k, h⟩] := by
  show upto S k ++ _ = _
  rw [dif_pos h]
theorem upto_no {S : BSet} {k : Nat} (h : S[k]? ≠ some true) : upto S (k + 1) = upto S k := by
  show upto S k ++ _ = _
  rw [dif_neg h, List.append_nil]
theorem upto_length (S : BSet) : ∀ k, (upto S k).length ≤ k
  | 0 => Nat.le_refl _
  | k + 1 => by
    have := upto_length S k
    show (upto S k ++ _).length ≤ _
    rw [List.length_append]
    split <;> simp <;> omega
theorem upto_prefix (S : BSet) {j k : Nat} (h : j ≤ k) : upto S j <+: upto S k := by
  induction h with
  | refl => exact List.prefix_refl _
  | step h ih => exact ih.trans (List.prefix_append _ _)
theorem upto_mem (S : BSet) : ∀ k (x : On S), x ∈ upto S k ↔ x.1 < k
  | 0, x => by simp [upto]
  | k + 1, x => by
    by_cases h : S[k]? = some true
    · rw [upto_yes h, List.mem_append, upto_mem S k]
      simp only [List.mem_singleton]
      constructor
      · rintro (h1 | rfl)
        · omega
        · exact Nat.lt_succ_self _
      · intro h1
        rcases Nat.lt_or_ge x.1 k with h2 | h2
        · exact Or.inl h2
        · exact Or.inr (Subtype.ext (show x.1 = k by omega))
    · rw [upto_no h, upto_mem S k]
      constructor
      · omega
      · intro h1
        have : x.1 ≠ k := fun e => h (e ▸ x.2)
        omega
theorem ones_mem {S : BSet} (hS : S.length = 8) (x : On S) : x ∈ ones S := (upto_mem S 8 x).2 (x.lt hS)

/-- s with all of some blocks, or without. -/
def setAll (v : Bool) (S : BSet) {O : BSet} (xs : List (On O)) : BSet := xs.foldl (fun S x => put S (x.1 : Int) v) S
theorem setAll_snoc (v : Bool) (S : BSet) {O : BSet} (xs : List (On O)) (x : On O) : setAll v S (xs ++ [x]) = put (setAll v S xs) (x.1 : Int) v := by simp [setAll]
theorem setAll_length (v : Bool) {O : BSet} : ∀ (xs : List (On O)) (S : BSet), (setAll v S xs).length = S.length
  | [], _ => rfl
  | x :: l, S => by
    show (setAll v (put S _ v) l).length = _
    rw [setAll_length v l, put_length]
def orr (S O : BSet) : BSet := setAll true S (ones O)
def but (S O : BSet) : BSet := setAll false S (ones O)
def len (S : BSet) : Nat := (ones S).length
theorem orr_length (S O : BSet) : (orr S O).length = S.length := setAll_length ..
theorem but_length (S O : BSet) : (but S O).length = S.length := setAll_length ..
theorem len_le (S : BSet) : len S ≤ 8 := upto_length S 8

theorem put_get (S : BSet) (hS : S.length = 8) (b : Int) (v : Bool) (k : Nat) (hk : k < 8) : (put S b v)[k]? = if b = (k : Int) then some v else S[k]? := by
  unfold put
  by_cases h : 0 ≤ b ∧ b < 8
  · rw [if_pos h, List.getElem?_set]
    by_cases e : b = (k : Int)
    · rw [if_pos e, if_pos (by omega), if_pos (by omega)]
    · rw [if_neg e, if_neg (by omega)]
  · rw [if_neg h, if_neg (by omega)]
theorem setAll_get (v : Bool) {O : BSet} (k : Nat) (hk : k < 8) : ∀ (xs : List (On O)) (S : BSet), S.length = 8 → (setAll v S xs)[k]? = if ∃ x ∈ xs, x.1 = k then some v else S[k]?
  | [], S, _ => by simp [setAll]
  | x :: l, S, hS => by
    show (setAll v (put S (x.1 : Int) v) l)[k]? = _
    rw [setAll_get v k hk l _ (by rw [put_length]; exact hS), put_get S hS _ _ _ hk]
    by_cases h1 : ∃ y ∈ l, y.1 = k
    · rw [if_pos h1, if_pos (by obtain ⟨y, hy, e⟩ := h1; exact ⟨y, by simp [hy], e⟩)]
    · rw [if_neg h1]
      by_cases h2 : (x.1 : Int) = (k : Int)
      · rw [if_pos h2, if_pos ⟨x, by simp, by omega⟩]
      · rw [if_neg h2, if_neg]
        rintro ⟨y, hy, e⟩
        rcases List.mem_cons.1 hy with rfl | hy
        · exact h2 (by rw [e])
        · exact h1 ⟨y, hy, e⟩
theorem ones_has {O : BSet} (hO : O.length = 8) (k : Nat) : (∃ x ∈ ones O, x.1 = k) ↔ O[k]? = some true := by
  constructor
  · rintro ⟨x, _, rfl⟩
    exact x.2
  · intro h
    exact ⟨⟨k, h⟩, ones_mem hO _, rfl⟩
theorem orr_get {S O : BSet} (hS : S.length = 8) (hO : O.length = 8) (k : Nat) (hk : k < 8) : (orr S O)[k]? = if O[k]? = some true then some true else S[k]? := by
  rw [orr, setAll_get true k hk _ _ hS]
  by_cases h : O[k]? = some true
  · rw [if_pos h, if_pos ((ones_has hO k).2 h)]
  · rw [if_neg h, if_neg (fun e => h ((ones_has hO k).1 e))]
theorem but_get {S O : BSet} (hS : S.length = 8) (hO : O.length = 8) (k : Nat) (hk : k < 8) : (but S O)[k]? = if O[k]? = some true then some false else S[k]? := by
  rw [but, setAll_get false k hk _ _ hS]
  by_cases h : O[k]? = some true
  · rw [if_pos h, if_pos ((ones_has hO k).2 h)]
  · rw [if_neg h, if_neg (fun e => h ((ones_has hO k).1 e))]
theorem same_of {S O : BSet} (hS : S.length = 8) (hO : O.length = 8) (h : ∀ k, k < 8 → S[k]? = O[k]?) : S = O := by
  apply List.ext_getElem?
  intro k
  rcases Nat.lt_or_ge k 8 with hk | hk
  · exact h k hk
  · rw [List.getElem?_eq_none (by omega), List.getElem?_eq_none (by omega)]
theorem get_cases {S : BSet} (hS : S.length = 8) {k : Nat} (hk : k < 8) : S[k]? = some true ∨ S[k]? = some false := by
  have h : S[k]? = some (S[k]'(by omega)) := List.getElem?_eq_getElem (by omega)
  cases hb : S[k]'(by omega)
  · exact Or.inr (by rw [h, hb])
  · exact Or.inl (by rw [h, hb])
theorem empty_get {k : Nat} (hk : k < 8) : empty[k]? = some false := by
  rw [empty, List.getElem?_replicate, if_pos hk]
/-- All the blocks of a set, laid into the empty one. -/
theorem orr_empty {S : BSet} (hS : S.length = 8) : orr empty S = S := by
  refine same_of (by rw [orr_length]; rfl) hS fun k hk => ?_
  rw [orr_get rfl hS k hk]
  rcases get_cases hS hk with h | h
  · rw [h]; rfl
  · rw [h, if_neg (by simp), empty_get hk]

/-- The text: a digit for each block. -/
def dig (b : Bool) : UInt8 := if b then 49 else 48
def digs (S : BSet) : List UInt8 := S.map dig
def txt (S : BSet) : ByteArray := str (digs S)
theorem digs_length (S : BSet) : (digs S).length = S.length := by simp [digs]
theorem dig_inj {a b : Bool} (h : dig a = dig b) : a = b := by
  cases a <;> cases b <;> first | rfl | exact absurd h (by decide)
theorem digs_inj {S O : BSet} (h : digs S = digs O) : S = O := by
  have : ∀ (S O : BSet), S.map dig = O.map dig → S = O := by
    intro S
    induction S with
    | nil => intro O h; cases O <;> simp at h; rfl
    | cons a S ih =>
      intro O h
      cases O with
      | nil => simp at h
      | cons b O =>
        simp only [List.map_cons, List.cons.injEq] at h
        rw [dig_inj h.1, ih O h.2]
  exact this S O h
theorem txt_inj {S O : BSet} (h : txt S = txt O) : S = O := digs_inj (str_inj.1 h)
theorem txt_same (S O : BSet) : ((txt S).toList == (txt O).toList) = decide (S = O) := by
  rw [txt, txt, str_same]
  by_cases h : S = O
  · simp [h]
  · rw [decide_eq_false h, decide_eq_false (fun e => h (digs_inj e))]
theorem txt_size (S : BSet) : (txt S).size = S.length := by rw [txt, str_size, digs_length]
theorem empty_txt : txt empty = str [48, 48, 48, 48, 48, 48, 48, 48] := rfl

/-! ### Cells -/
def bcels (S : BSet) : List Value := S.map Value.bool
theorem bcels_length (S : BSet) : (bcels S).length = S.length := by simp [bcels]
theorem bcels_one (S : BSet) : ∀ u ∈ bcels S, u.oneCell' = true := by
  intro u hu
  simp only [bcels, List.mem_map] at hu
  obtain ⟨b, _, rfl⟩ := hu
  rfl
theorem bcels_get {S : BSet} {j : Nat} {b : Bool} (h : S[j]? = some b) : (bcels S)[j]? = some (.bool b) := by simp [bcels, h]
theorem bcels_set (S : BSet) (k : Nat) (v : Bool) : (bcels S).set k (.bool v) = bcels (S.set k v) := by simp [bcels, List.map_set]
theorem bcels_inj {S O : BSet} (h : bcels S = bcels O) : S = O := by
  have : ∀ (S O : BSet), S.map Value.bool = O.map Value.bool → S = O := by
    intro S
    induction S with
    | nil => intro O h; cases O <;> simp at h; rfl
    | cons a S ih =>
      intro O h
      cases O with
      | nil => simp at h
      | cons b O =>
        simp only [List.map_cons, List.cons.injEq, Value.bool.injEq] at h
        rw [h.1, ih O h.2]
  exact this S O h
/-- A set by value. -/
def val (S : BSet) : Value := .agg (bcels S).toArray

end Go.Proofs.Ytmenedndchakjaa.Bt
