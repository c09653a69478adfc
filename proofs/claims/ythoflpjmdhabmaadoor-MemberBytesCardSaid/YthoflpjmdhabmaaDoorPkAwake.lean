/-
  The statements' first call, awake: it returns true, and changes nothing that was there.
-/
import Derived.Test.YthoflpjmdhabmaaDoorPkText
namespace Go.Proofs.YthoflpjmdhabmaaDoor.Pk
open Go.RowKit

theorem enc300 : enc 300 = [172, 2] := by decide
theorem clamp300 : clamp 300 = 300 := by decide

theorem rnum_enc (n : Nat) (r : List UInt8) (h : n < 1152921504606846976) : rnum (enc n ++ r) 0 = (n, r, 0) := by
  rw [rnum_ok _ _ _ (dec_enc n r h), List.drop_left]

theorem Byt.at_ {w : World} {B b o : Nat} {l : List UInt8} (h : Byt w B (some ⟨b, o, none⟩) l) (j : Nat) (u : UInt8) (hu : l[j]? = some u) : w.cell? ⟨b, o + j, none⟩ = some (cel u) := by
  have hne : l ≠ [] := by rintro rfl; simp at hu
  obtain ⟨b', o', e, _, hc⟩ := h hne
  simp only [Option.some.injEq, Addr.mk.injEq, and_true] at e
  obtain ⟨rfl, rfl⟩ := e
  exact hc j u hu

end Go.Proofs.YthoflpjmdhabmaaDoor.Pk
