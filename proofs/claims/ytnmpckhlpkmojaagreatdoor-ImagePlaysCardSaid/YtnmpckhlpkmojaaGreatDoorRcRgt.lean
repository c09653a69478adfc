/-
  Which records are valid, in plain words. No program.
-/
import Derived.Test.YtnmpckhlpkmojaaGreatDoorSmStr
namespace Go.Proofs.YtnmpckhlpkmojaaGreatDoor.Rc

/-- A number of layer 1. -/
def Num (n : Int) : Prop := 0 ≤ n ∧ n ≤ 1152921504606846975
/-- A valid record: Seq, Kind, Block, how many bytes of Data, Number. -/
def Rgt (s k b : Int) (n : Nat) (m : Int) : Prop :=
  (1 ≤ s ∧ s ≤ 1152921504606846975) ∧ ((k = 1 ∧ 0 ≤ b ∧ b ≤ 7 ∧ n ≤ 16 ∧ m = 0) ∨ (k = 2 ∧ b = 0 ∧ n = 0 ∧ 1 ≤ m ∧ m ≤ 1152921504606846975))
instance (n : Int) : Decidable (Num n) := by unfold Num; exact inferInstance
instance (s k b : Int) (n : Nat) (m : Int) : Decidable (Rgt s k b n m) := by unfold Rgt; exact inferInstance

end Go.Proofs.YtnmpckhlpkmojaaGreatDoor.Rc
