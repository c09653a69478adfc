/-
  Two records held one against the other. Plain theorems, for every world.
-/
import Derived.Laws.StructEq
import Derived.Test.YteneacmdfehfnaaDoorRcRight
namespace Go.Proofs.YteneacmdfehfnaaDoor.Rc
open Go.RowKit
open Pk Sm Fa

/-- Whether two records are the same. -/
def same5 (s k b : Int) (d : ByteArray) (m : Int) (s' k' b' : Int) (d' : ByteArray) (m' : Int) : Bool := decide (s = s' ∧ k = k' ∧ b = b' ∧ d = d' ∧ m = m')

theorem rec_fields : (Tryd.prog.fieldsOf 30).toList.map (fun f => (f.name, f.type, f.offset)) = [("Seq", 3, 0), ("Kind", 3, 1), ("Block", 3, 2), ("Data", 9, 3), ("Number", 3, 4)] := by kernel_rfl
theorem rec_struct : Tryd.prog.underlying 30 = some (.struct (Tryd.prog.fieldsOf 30)) := by kernel_rfl
theorem rec_held : Tryd.prog.stoodInHeld 30 = false := by kernel_rfl
theorem rec_guard : Tryd.prog.eqGuardType Tryd.prog.depth 30 = false := by kernel_rfl
theorem str_ext {d d' : ByteArray} (h : d.toList = d'.toList) : d = d' := by
  rw [ByteArray.toList_eq, ByteArray.toList_eq] at h
  rw [← str_of d, ← str_of d', h]
theorem five {α : Type} (l : List α) (h : l.length = 5) : ∃ a b c d e, l = [a, b, c, d, e] := by
  match l, h with
  | [a, b, c, d, e], _ => exact ⟨a, b, c, d, e, rfl⟩

set_option maxRecDepth 100000 in
theorem rec_equal (s k b : Int) (d : ByteArray) (m : Int) (s' k' b' : Int) (d' : ByteArray) (m' : Int) (W : World) :
    (Op.equalIn 10000 30 (rec5 s k b d m) (rec5 s' k' b' d' m')).run Tryd.prog W = .ok (same5 s k b d m s' k' b' d' m') W := by
  rw [run_equalIn_agg W 9999 30 _ _ rec_struct rec_held]
  obtain ⟨f0, f1, f2, f3, f4, hf, h0, h1, h2, h3, h4⟩ : ∃ f0 f1 f2 f3 f4 : Field, (Tryd.prog.fieldsOf 30).toList = [f0, f1, f2, f3, f4] ∧ (f0.name, f0.type, f0.offset) = ("Seq", 3, 0) ∧ (f1.name, f1.type, f1.offset) = ("Kind", 3, 1) ∧ (f2.name, f2.type, f2.offset) = ("Block", 3, 2) ∧ (f3.name, f3.type, f3.offset) = ("Data", 9, 3) ∧ (f4.name, f4.type, f4.offset) = ("Number", 3, 4) := by
    have h := rec_fields
    obtain ⟨f0, f1, f2, f3, f4, hf⟩ := five _ (show (Tryd.prog.fieldsOf 30).toList.length = 5 by simpa using congrArg List.length h)
    rw [hf] at h
    simp only [List.map_cons, List.map_nil, List.cons.injEq, and_true] at h
    exact ⟨f0, f1, f2, f3, f4, hf, h⟩
  rw [hf]
  simp only [Prod.mk.injEq] at h0 h1 h2 h3 h4
  obtain ⟨a0, b0, c0⟩ := h0
  obtain ⟨a1, b1, c1⟩ := h1
  obtain ⟨a2, b2, c2⟩ := h2
  obtain ⟨a3, b3, c3⟩ := h3
  obtain ⟨a4, b4, c4⟩ := h4
  simp only [Op.eqFields, a0, b0, c0, a1, b1, c1, a2, b2, c2, a3, b3, c3, a4, b4, c4]
  go_simp
  unfold same5
  by_cases h1 : s = s'
  · by_cases h2 : k = k'
    · by_cases h3 : b = b'
      · by_cases h4 : d = d'
        · by_cases h5 : m = m'
          · simp [h1, h2, h3, h4, h5]
          · simp [h1, h2, h3, h4, h5]
        · have h4' : d.toList ≠ d'.toList := fun e => h4 (str_ext e)
          simp [h1, h2, h3, h4, h4']
      · simp [h1, h2, h3]
    · simp [h1, h2]
  · simp [h1]

theorem rec_eql (s k b : Int) (d : ByteArray) (m : Int) (s' k' b' : Int) (d' : ByteArray) (m' : Int) (v : Bool) (hv : same5 s k b d m s' k' b' d' m' = v) (W : World) :
    (binOp .eql 30 (rec5 s k b d m) (rec5 s' k' b' d' m')).run Tryd.prog W = .ok (.bool v) W := by
  rw [run_eql_struct, rec_equal, hv]
  rfl
theorem rec_neq (s k b : Int) (d : ByteArray) (m : Int) (s' k' b' : Int) (d' : ByteArray) (m' : Int) (v : Bool) (hv : same5 s k b d m s' k' b' d' m' = v) (W : World) :
    (binOp .neq 30 (rec5 s k b d m) (rec5 s' k' b' d' m')).run Tryd.prog W = .ok (.bool (!v)) W := by
  rw [run_neq_struct, rec_equal, hv]
  rfl
theorem rec_eqg (o : BinOp) (x y : Operand) (s k b : Int) (d : ByteArray) (m : Int) (s' k' b' : Int) (d' : ByteArray) (m' : Int) (W : World) :
    (eqGuard o 30 x y (rec5 s k b d m) (rec5 s' k' b' d' m')).run Tryd.prog W = .ok () W := run_eqGuard_agg W o 30 x y _ _ rec_guard
theorem same5_self (s k b : Int) (d : ByteArray) (m : Int) : same5 s k b d m s k b d m = true := decide_eq_true ⟨rfl, rfl, rfl, rfl, rfl⟩

end Go.Proofs.YteneacmdfehfnaaDoor.Rc
