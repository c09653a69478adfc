/-
  The statements' arguments: a slice of bytes, of texts, of Ops, as numbers and texts; what the statements' own few returns. Nothing is changed.
-/
import Derived.Test.YtidojlagdodkkabDoorRows
import Derived.WalkKit
import Derived.ProofKit
import Derived.OpenShut
import Derived.ShutString
import Derived.ChangeOld
import Derived.Below
import Derived.Deep.SlicePairs
import Derived.Lib.SmallJoins
import Derived.Test.YtidojlagdodkkabDoorLkRow
namespace Go.Proofs.YtidojlagdodkkabDoor.Lk
open Go.ChangeShapes Go.WideShapes Go.ChangeAt Go.RowKit Go.Deep Go.Joins
open Pk Dk Wn

theorem own : ownKnob Tryd.prog.godebug = none := by kernel_rfl
theorem laidOut : laidOutB Tryd.prog = true := by kernel_rfl
theorem u8_back (z : Int) (h : (Lit.int .u8 z).wf = true) : ((UInt8.ofNat z.toNat).toNat : Int) = z := by
  have hb := bounds_u8 h
  simp
  omega
/-- One byte of a row. -/
theorem Src.byte {w : World} {A : Option Addr} {l : List UInt8} {j : Nat} {b : UInt8} (h : Src w A (cels l)) (hb : l[j]? = some b) : ∃ g o, A = some ⟨g, o, none⟩ ∧ g < w.heap.size ∧ w.cell? ⟨g, o + j, none⟩ = some (.int .u8 (b.toNat : Int)) := by
  have hx : (cels l)[j]? = some (cel b) := by simp [cels, hb]
  obtain ⟨g, o, e, hl, hc⟩ := h (by intro e; rw [e] at hx; simp at hx)
  exact ⟨g, o, e, hl, hc _ _ hx⟩
section
variable {H : Type} {enc : TypeId × Value → H} {W : World} {d : DataW H} {p : List MemPlace} {a0 : Option Addr} {len cap : Nat}
end

/-! ### Texts -/
def texts (l : List ByteArray) : List Value := l.map Value.string
theorem Src.text {w : World} {A : Option Addr} {l : List ByteArray} {j : Nat} {s : ByteArray} (h : Src w A (texts l)) (hs : l[j]? = some s) : ∃ g o, A = some ⟨g, o, none⟩ ∧ g < w.heap.size ∧ w.cell? ⟨g, o + j, none⟩ = some (.string s) := by
  have hx : (texts l)[j]? = some (.string s) := by simp [texts, hs]
  obtain ⟨g, o, e, hl, hc⟩ := h (by intro e; rw [e] at hx; simp at hx)
  exact ⟨g, o, e, hl, hc _ _ hx⟩
section
variable {H : Type} {enc : TypeId × Value → H} {W : World} {d : DataW H} {p : List MemPlace} {a0 : Option Addr} {len cap : Nat}
end

/-! ### Ops -/
/-- Kind, I, S, On. -/
structure Oq where
  kind : Int
  n : Int
  s : ByteArray
  on : Bool
instance : Inhabited Oq := ⟨⟨0, 0, ⟨#[]⟩, false⟩⟩
def ocel (q : Oq) : List Value := [.int .i64 q.kind, .int .i64 q.n, .string q.s, .bool q.on]
def ocels (l : List Oq) : List Value := l.flatMap ocel
theorem ocel_len (l : List Oq) : ∀ q ∈ l, (ocel q).length = 4 := fun _ _ => rfl
theorem ocels_len (l : List Oq) : (ocels l).length = l.length * 4 := flat_len l (ocel_len l)
theorem Src.op {w : World} {A : Option Addr} {l : List Oq} {j : Nat} {q : Oq} (h : Src w A (ocels l)) (hq : l[j]? = some q) : ∃ g o, A = some ⟨g, o, none⟩ ∧ g < w.heap.size ∧ w.cell? ⟨g, o + j * 4, none⟩ = some (.int .i64 q.kind) ∧ w.cell? ⟨g, o + j * 4 + 1, none⟩ = some (.int .i64 q.n) ∧ w.cell? ⟨g, o + j * 4 + 2, none⟩ = some (.string q.s) ∧ w.cell? ⟨g, o + j * 4 + 3, none⟩ = some (.bool q.on) := by
  have h0 : (ocels l)[j * 4 + 0]? = some (.int .i64 q.kind) := flat_get l (ocel_len l) j 0 q hq (by omega)
  have h1 : (ocels l)[j * 4 + 1]? = some (.int .i64 q.n) := flat_get l (ocel_len l) j 1 q hq (by omega)
  have h2 : (ocels l)[j * 4 + 2]? = some (.string q.s) := flat_get l (ocel_len l) j 2 q hq (by omega)
  have h3 : (ocels l)[j * 4 + 3]? = some (.bool q.on) := flat_get l (ocel_len l) j 3 q hq (by omega)
  obtain ⟨g, o, e, hl, hc⟩ := h (by intro e; rw [e] at h0; simp at h0)
  exact ⟨g, o, e, hl, hc _ _ h0, by rw [Nat.add_assoc]; exact hc _ _ h1, by rw [Nat.add_assoc]; exact hc _ _ h2, by rw [Nat.add_assoc]; exact hc _ _ h3⟩
section
variable {H : Type} {enc : TypeId × Value → H} {W : World} {d : DataW H} {p : List MemPlace} {a0 : Option Addr} {len cap : Nat}
end

/-! ### few -/
end Go.Proofs.YtidojlagdodkkabDoor.Lk
