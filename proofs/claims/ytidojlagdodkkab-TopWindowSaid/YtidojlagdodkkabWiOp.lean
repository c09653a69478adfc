/-
  The plain statements' arguments: a slice of bytes, a slice of Fates. Plain theorems on readings.
-/
import Derived.Test.YtidojlagdodkkabRows
import Derived.WalkKit
import Derived.ProofKit
import Derived.OpenShut
import Derived.ShutString
import Derived.ChangeOld
import Derived.Below
import Derived.Deep.SlicePairs
import Derived.Test.YtidojlagdodkkabWiAwake
namespace Go.Proofs.Ytidojlagdodkkab.Wi
open Go.ChangeShapes Go.WideShapes Go.ChangeAt Go.RowKit Go.Deep
open Pk Dk Wn

theorem own : ownKnob Try.prog.godebug = none := by kernel_rfl
theorem laidOut : laidOutB Try.prog = true := by kernel_rfl
theorem u8_back (z : Int) (h : (Lit.int .u8 z).wf = true) : ((UInt8.ofNat z.toNat).toNat : Int) = z := by
  have hb := bounds_u8 h
  simp
  omega
def I64 (n : Int) : Prop := -9223372036854775808 ≤ n ∧ n ≤ 9223372036854775807
def Fits64 (l : List Pkt) : Prop := ∀ q ∈ l, I64 q.1 ∧ I64 q.2
/-- One byte of a row. -/
theorem Src.byte {w : World} {A : Option Addr} {l : List UInt8} {j : Nat} {b : UInt8} (h : Src w A (cels l)) (hb : l[j]? = some b) : ∃ g o, A = some ⟨g, o, none⟩ ∧ g < w.heap.size ∧ w.cell? ⟨g, o + j, none⟩ = some (.int .u8 (b.toNat : Int)) := by
  have hx : (cels l)[j]? = some (cel b) := by simp [cels, hb]
  obtain ⟨g, o, e, hl, hc⟩ := h (by intro e; rw [e] at hx; simp at hx)
  exact ⟨g, o, e, hl, hc _ _ hx⟩
section
variable {H : Type} {enc : TypeId × Value → H} {W : World} {d : DataW H} {p : List MemPlace} {a0 : Option Addr} {len cap : Nat}
end
end Go.Proofs.Ytidojlagdodkkab.Wi
