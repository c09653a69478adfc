/-
  How many blocks sets have; sets that are the same. Plain theorems, of no function.
-/
import Derived.Test.YtmenedndchakjaaBtMath
namespace Go.Proofs.Ytmenedndchakjaa.Bt

theorem cnt_succ (S : BSet) (k : Nat) : (upto S (k + 1)).length = (upto S k).length + if S[k]? = some true then 1 else 0 := by
  by_cases h : S[k]? = some true
  · rw [upto_yes h, if_pos h, List.length_append]
    rfl
  · rw [upto_no h, if_neg h]
    rfl
theorem cnt_orr {S O : BSet} (hS : S.length = 8) (hO : O.length = 8) : ∀ k, k ≤ 8 → (upto (orr S O) k).length = (upto S k).length + (upto (but O S) k).length
  | 0, _ => rfl
  | k + 1, h => by
    rw [cnt_succ, cnt_succ, cnt_succ, cnt_orr hS hO k (by omega), orr_get hS hO k (by omega), but_get hO hS k (by omega)]
    rcases get_cases hS (k := k) (by omega) with hs | hs <;> rcases get_cases hO (k := k) (by omega) with ho | ho <;> simp [hs, ho] <;> omega
theorem len_orr {S O : BSet} (hS : S.length = 8) (hO : O.length = 8) : len (orr S O) = len S + len (but O S) := cnt_orr hS hO 8 (Nat.le_refl _)
theorem cnt_but {S O : BSet} (hS : S.length = 8) (hO : O.length = 8) : ∀ k, k ≤ 8 → (upto (but S O) k).length ≤ (upto S k).length
  | 0, _ => Nat.le_refl _
  | k + 1, h => by
    have ih := cnt_but hS hO k (by omega)
    rw [cnt_succ, cnt_succ, but_get hS hO k (by omega)]
    rcases get_cases hS (k := k) (by omega) with hs | hs <;> rcases get_cases hO (k := k) (by omega) with ho | ho <;> simp [hs, ho] <;> omega
theorem len_but {S O : BSet} (hS : S.length = 8) (hO : O.length = 8) : len (but S O) ≤ len S := cnt_but hS hO 8 (Nat.le_refl _)
/-- One block more, if it wasn't there. -/
def more (S : BSet) (x : Int) : Nat := if has S x = false ∧ 0 ≤ x ∧ x < 8 then 1 else 0
theorem cnt_put {S : BSet} (hS : S.length = 8) (j : Nat) (hj : j < 8) : ∀ k, k ≤ 8 → (upto (put S (j : Int) true) k).length = (upto S k).length + if j < k ∧ S[j]? ≠ some true then 1 else 0
  | 0, _ => by simp [upto]
  | k + 1, h => by
    rw [cnt_succ, cnt_succ, cnt_put hS j hj k (by omega), put_get S hS (j : Int) true k (by omega)]
    by_cases e : (j : Int) = (k : Int)
    · obtain rfl : j = k := by omega
      rw [if_pos rfl, if_neg (by omega), if_pos rfl]
      rcases get_cases hS (k := j) (by omega) with hs | hs <;> simp [hs]
    · rw [if_neg e]
      have e2 : (j < k + 1 ∧ S[j]? ≠ some true) ↔ (j < k ∧ S[j]? ≠ some true) := ⟨fun h2 => ⟨by omega, h2.2⟩, fun h2 => ⟨by omega, h2.2⟩⟩
      simp only [e2]
      omega
theorem len_put {S : BSet} (hS : S.length = 8) (x : Int) : len (put S x true) = len S + more S x := by
  unfold more
  by_cases h : 0 ≤ x ∧ x < 8
  · obtain ⟨j, rfl⟩ : ∃ j : Nat, (j : Int) = x := ⟨x.toNat, by omega⟩
    rw [len, ones, cnt_put hS j (by omega) 8 (Nat.le_refl _), has_in S j (by omega)]
    show (upto S 8).length + _ = (upto S 8).length + _
    congr 1
    have h8 : (j : Int) < 8 := h.2
    have h8' : j < 8 := by omega
    rcases get_cases hS (k := j) (by omega) with hs | hs <;> simp [hs, h8, h8']
  · rw [put_out S x true (by omega), if_neg (by omega)]
    rfl
theorem put_put {S : BSet} (hS : S.length = 8) (x : Int) : put (put S x true) x false = put S x false := by
  refine same_of (by rw [put_length, put_length]; exact hS) (by rw [put_length]; exact hS) fun k hk => ?_
  rw [put_get _ (by rw [put_length]; exact hS) x false k hk, put_get S hS x false k hk]
  by_cases e : x = (k : Int)
  · rw [if_pos e, if_pos e]
  · rw [if_neg e, if_neg e, put_get S hS x true k hk, if_neg e]
theorem orr_comm {S O : BSet} (hS : S.length = 8) (hO : O.length = 8) : orr S O = orr O S := by
  refine same_of (by rw [orr_length]; exact hS) (by rw [orr_length]; exact hO) fun k hk => ?_
  rw [orr_get hS hO k hk, orr_get hO hS k hk]
  rcases get_cases hS hk with hs | hs <;> rcases get_cases hO hk with ho | ho <;> simp [hs, ho]
theorem but_orr {S O : BSet} (hS : S.length = 8) (hO : O.length = 8) : orr (but S O) O = orr S O := by
  refine same_of (by rw [orr_length, but_length]; exact hS) (by rw [orr_length]; exact hS) fun k hk => ?_
  rw [orr_get (by rw [but_length]; exact hS) hO k hk, orr_get hS hO k hk, but_get hS hO k hk]
  rcases get_cases hS hk with hs | hs <;> rcases get_cases hO hk with ho | ho <;> simp [hs, ho]
theorem but_self {S : BSet} (hS : S.length = 8) : but S S = empty := by
  refine same_of (by rw [but_length]; exact hS) rfl fun k hk => ?_
  rw [but_get hS hS k hk, empty_get hk]
  rcases get_cases hS hk with hs | hs <;> simp [hs]
theorem has_orr {S O : BSet} (hS : S.length = 8) (hO : O.length = 8) (x : Int) : has (orr S O) x = (has S x || has O x) := by
  by_cases h : 0 ≤ x ∧ x < 8
  · obtain ⟨j, rfl⟩ : ∃ j : Nat, (j : Int) = x := ⟨x.toNat, by omega⟩
    rw [has_in _ j (by omega), has_in _ j (by omega), has_in _ j (by omega), orr_get hS hO j (by omega)]
    rcases get_cases hS (k := j) (by omega) with hs | hs <;> rcases get_cases hO (k := j) (by omega) with ho | ho <;> simp [hs, ho]
  · rw [has_out _ x (by omega), has_out _ x (by omega), has_out _ x (by omega)]
    rfl
theorem has_but {S O : BSet} (hS : S.length = 8) (hO : O.length = 8) (x : Int) : has (but S O) x = (has S x && !has O x) := by
  by_cases h : 0 ≤ x ∧ x < 8
  · obtain ⟨j, rfl⟩ : ∃ j : Nat, (j : Int) = x := ⟨x.toNat, by omega⟩
    rw [has_in _ j (by omega), has_in _ j (by omega), has_in _ j (by omega), but_get hS hO j (by omega)]
    rcases get_cases hS (k := j) (by omega) with hs | hs <;> rcases get_cases hO (k := j) (by omega) with ho | ho <;> simp [hs, ho]
  · rw [has_out _ x (by omega), has_out _ x (by omega), has_out _ x (by omega)]
    rfl

end Go.Proofs.Ytmenedndchakjaa.Bt
