/-
  Two sets held one against the other. Plain theorems, for every world.
-/
import Derived.Laws.StructEq
import Derived.ChangeKeysEq
import Derived.Test.YtmenedndchakjaaBtMath
namespace Go.Proofs.Ytmenedndchakjaa.Bt
open Go.RowKit
open Pk Sm

theorem set_fields : (Try.prog.fieldsOf 28).toList.map (fun f => (f.name, f.type, f.offset)) = [("in", 26, 0)] := by kernel_rfl
theorem set_struct : Try.prog.underlying 28 = some (.struct (Try.prog.fieldsOf 28)) := by kernel_rfl
theorem set_held : Try.prog.stoodInHeld 28 = false := by kernel_rfl
theorem set_guard : Try.prog.eqGuardType Try.prog.depth 28 = false := by kernel_rfl
theorem bool_cells : Try.prog.cellsOf 4 = 1 := by kernel_rfl
theorem arr_size8 : (Try.prog.info? 26).map (·.size) = some 8 := by kernel_rfl
theorem bool_info : (Try.prog.info? 4).isSome = true := by kernel_rfl

theorem part_bool (S : BSet) (i : Nat) (h : i < S.length) (w : World) : (part 4 (bcels S).toArray (i * 1)).run Try.prog w = .ok (.bool (S[i]?.getD false)) w := by
  have hg : (isAgg 4).run Try.prog w = .ok false w := by
    unfold isAgg
    rw [Sem.run_bind, run_underlying Try.underlying4 w]
    rfl
  have hv : (bcels S)[i]? = some (.bool (S[i]?.getD false)) := by
    rw [List.getElem?_eq_getElem h]
    simp [bcels, h]
  simp only [part, Sem.run_bind, hg, Result.andThen_ok]
  simp [hv]
theorem eqItems_bools (d : Nat) (S O : BSet) (hS : S.length = 8) (hO : O.length = 8) (w : World) : ∀ is : List Nat, (∀ i ∈ is, i < 8) →
    (Op.eqItems (d + 1) 4 1 (bcels S).toArray (bcels O).toArray is).run Try.prog w = .ok (is.all fun i => S[i]?.getD false == O[i]?.getD false) w
  | [], _ => by simp [Op.eqItems]
  | i :: is, h => by
    have hi := h i (by simp)
    have ih := eqItems_bools d S O hS hO w is (fun j hj => h j (by simp [hj]))
    simp only [Op.eqItems, Sem.run_bind, part_bool S i (by omega) w, part_bool O i (by omega) w, Result.andThen_ok, run_equalIn_bool' w d 4 _ _ Try.underlying4, List.all_cons]
    cases hb : (S[i]?.getD false == O[i]?.getD false)
    · simp
    · simpa using ih
theorem all_same {S O : BSet} (hS : S.length = 8) (hO : O.length = 8) : ((List.range 8).all fun i => S[i]?.getD false == O[i]?.getD false) = decide (S = O) := by
  by_cases h : S = O
  · subst h
    rw [decide_eq_true rfl]
    simp
  · rw [decide_eq_false h, List.all_eq_false]
    apply Classical.byContradiction
    intro hn
    apply h
    refine same_of hS hO fun k hk => ?_
    have : (S[k]?.getD false == O[k]?.getD false) = true := by
      apply Classical.byContradiction
      intro e
      exact hn ⟨k, by simp [hk], e⟩
    have e := eq_of_beq this
    rw [List.getElem?_eq_getElem (show k < S.length by omega), List.getElem?_eq_getElem (show k < O.length by omega)] at e ⊢
    exact congrArg some e

theorem set_equal (S O : BSet) (hS : S.length = 8) (hO : O.length = 8) (W : World) : (Op.equalIn 10000 28 (val S) (val O)).run Try.prog W = .ok (decide (S = O)) W := by
  unfold val
  rw [run_equalIn_agg W 9999 28 _ _ set_struct set_held]
  obtain ⟨f, hf, h0⟩ : ∃ f : Field, (Try.prog.fieldsOf 28).toList = [f] ∧ (f.name, f.type, f.offset) = ("in", 26, 0) := by
    have h := set_fields
    have hl := congrArg List.length h
    rw [List.length_map] at hl
    obtain ⟨f, hf⟩ := List.length_eq_one_iff.1 hl
    rw [hf] at h
    exact ⟨f, hf, by simpa using h⟩
  rw [hf]
  simp only [Prod.mk.injEq] at h0
  obtain ⟨a0, b0, c0⟩ := h0
  obtain ⟨i, hi, hsz⟩ : ∃ i, Try.prog.info? 26 = some i ∧ i.size = 8 := by
    have hs := arr_size8
    cases hq : Try.prog.info? 26 with
    | none => simp [hq] at hs
    | some i => exact ⟨i, rfl, by simpa [hq] using hs⟩
  have hg : (isAgg 26).run Try.prog W = .ok true W := by
    unfold isAgg
    rw [Sem.run_bind, run_underlying Try.underlying26 W]
    rfl
  have hp : ∀ T : BSet, T.length = 8 → (part 26 (bcels T).toArray 0).run Try.prog W = .ok (.agg (bcels T).toArray) W := fun T hT => by
    have e : (bcels T).take 8 = bcels T := List.take_of_length_le (by rw [bcels_length, hT]; exact Nat.le_refl _)
    simp [part, Sem.run_bind, hg, sizeOf, typeInfo, hi, hsz, e]
  obtain ⟨j, hj⟩ : ∃ j, Try.prog.info? 4 = some j := Option.isSome_iff_exists.1 bool_info
  have he : (Op.equalIn 9999 26 (.agg (bcels S).toArray) (.agg (bcels O).toArray)).run Try.prog W = .ok (decide (S = O)) W := by
    rw [run_equalIn_array W 9998 (i := j) _ _ Try.underlying26 hj, bool_cells, eqItems_bools 9997 S O hS hO W (List.range 8) (fun i hi => List.mem_range.1 hi), all_same hS hO]
  simp only [Op.eqFields, a0, b0, c0, Sem.run_bind, Sem.run_ite, hp S hS, hp O hO, he, Result.andThen_ok]
  cases hd : decide (S = O) <;> simp

theorem set_eql (S O : BSet) (hS : S.length = 8) (hO : O.length = 8) (v : Bool) (hv : decide (S = O) = v) (W : World) : (binOp .eql 28 (val S) (val O)).run Try.prog W = .ok (.bool v) W := by
  have h := set_equal S O hS hO W
  unfold val at h ⊢
  rw [run_eql_struct, h, hv]
  rfl
theorem set_neq (S O : BSet) (hS : S.length = 8) (hO : O.length = 8) (v : Bool) (hv : decide (S = O) = v) (W : World) : (binOp .neq 28 (val S) (val O)).run Try.prog W = .ok (.bool (!v)) W := by
  have h := set_equal S O hS hO W
  unfold val at h ⊢
  rw [run_neq_struct, h, hv]
  rfl
theorem set_eqg (o : BinOp) (x y : Operand) (S O : BSet) (W : World) : (eqGuard o 28 x y (val S) (val O)).run Try.prog W = .ok () W := run_eqGuard_agg W o 28 x y _ _ set_guard

end Go.Proofs.Ytmenedndchakjaa.Bt
