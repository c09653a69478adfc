/-
  A row of texts that a statement is given. Nothing is changed.
-/
import Derived.Test.YtapiogcoipeinaaGreatDoorRows
import Derived.WalkKit
import Derived.ProofKit
import Derived.OpenShut
import Derived.ShutString
import Derived.ChangeOld
import Derived.Below
import Derived.Deep.SlicePairs
import Derived.Lib.SmallJoins
import Derived.Test.YtapiogcoipeinaaGreatDoorChecked
namespace Go.Proofs.YtapiogcoipeinaaGreatDoor.Vo
open Go.ChangeShapes Go.WideShapes Go.ChangeAt Go.RowKit Go.Deep Go.Joins
def Txts (W : World) (B : Nat) (A : Option Addr) (l : List ByteArray) : Prop :=
 l ≠ [] → ∃ g o, A = some ⟨g, o, none⟩ ∧ g < B ∧ ∀ j s, l[j]? = some s → W.cell? ⟨g, o + j, none⟩ = some (.string s)
theorem Txts.below {W w' : World} {B : Nat} {A : Option Addr} {l : List ByteArray} (h : Txts W B A l) (hb : Below B W w') : Txts w' B A l := fun hne => by
 obtain ⟨g, o, e, hg, hc⟩ := h hne
 exact ⟨g, o, e, hg, fun j s hs => (hb.cell (p := ⟨g, o + j, none⟩) hg).trans (hc j s hs)⟩
theorem Txts.at {W : World} {B : Nat} {A : Option Addr} {l : List ByteArray} (h : Txts W B A l) {k : Nat} {s : ByteArray} (hk : l[k]? = some s) : ∃ g o, A = some ⟨g, o, none⟩ ∧ W.cell? ⟨g, o + k, none⟩ = some (.string s) := by
 obtain ⟨g, o, e, _, hc⟩ := h (by rintro rfl; simp at hk)
 exact ⟨g, o, e, hc k s hk⟩
section
variable {H : Type} {enc : TypeId × Value → H} {W : World} {d : DataW H} {p : List MemPlace} {a0 : Option Addr} {len cap : Nat}
theorem open_texts (h : DataW.Trod enc Tryz.prog W 0 (fun _ => true) true 66 (.slice a0 len cap) d p) :
 ∃ xs : List ByteArray, xs.length = len ∧ Txts W W.heap.size a0 xs := by
 obtain ⟨fuel, hf⟩ := h
 rcases open_strings Tryz.underlying66 Tryz.underlying9 (by kernel_rfl) hf with ⟨hcs, _⟩ | ⟨x, l, c, zs, hcs, _, hl, hm, hz, _, hcell, hws⟩
 ·simp [Value.cells] at hcs
  obtain ⟨rfl, rfl, rfl⟩ := hcs
  exact ⟨[], rfl, fun h => absurd rfl h⟩
 ·simp [Value.cells] at hcs
  obtain ⟨rfl, rfl, rfl⟩ := hcs
  have hzl : zs.length = cap := by simpa using hz
  refine ⟨zs.take len, by rw [List.length_take]; omega, fun hne => ?_⟩
  have hpos : 0 < zs.length := by
   rcases Nat.eq_zero_or_pos zs.length with h0 | h0
   ·exact absurd (by rw [List.eq_nil_of_length_eq_zero h0]; simp) hne
   ·exact h0
  obtain ⟨b, o, sp⟩ := x
  have hsp : sp = none := by simpa [Addr.add] using World.cell?_spot (hcell 0 hpos)
  subst hsp
  have hb : b < W.heap.size := by
   have := hcell 0 hpos
   rw [Addr.add_lit] at this
   exact World.block_lt_of_cell? W ⟨b, _, none⟩ this
  refine ⟨b, o, rfl, hb, fun j u hu => ?_⟩
  have hj : j < len := by
   have := (List.getElem?_eq_some_iff.1 hu).1
   rw [List.length_take] at this
   omega
  have hjz : j < zs.length := by omega
  have hc := hcell j hjz
  rw [Addr.add_lit] at hc
  rw [hc]
  rw [List.getElem?_take, if_pos hj, List.getElem?_eq_getElem hjz] at hu
  rw [List.getD_eq_getElem?_getD, List.getElem?_eq_getElem hjz]
  simpa using hu
end
end Go.Proofs.YtapiogcoipeinaaGreatDoor.Vo
