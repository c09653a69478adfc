/-
  Slices of integers and of strings that came in, told as lists; what many numbers and texts are as bytes, one behind the other, and how they are read back. Plain theorems.
-/
import Derived.SliceStrings
import Derived.Test.YtpajpapimdnjjaaPkOpen
namespace Go.Proofs.Ytpajpapimdnjjaa.Pk
open Go.ChangeShapes Go.WideShapes Go.ChangeAt Go.RowKit Go.Deep

/-- The elements xs lie, a cell each, where a slice's address leads, below block B. -/
def Rw {α : Type} (f : α → Value) (w : World) (B : Nat) (A : Option Addr) (xs : List α) : Prop :=
  xs ≠ [] → ∃ b o, A = some ⟨b, o, none⟩ ∧ b < B ∧ ∀ j x, xs[j]? = some x → w.cell? ⟨b, o + j, none⟩ = some (f x)

theorem Rw.below {α : Type} {f : α → Value} {w w' : World} {B : Nat} {A : Option Addr} {xs : List α} (h : Rw f w B A xs) (hb : Below B w w') : Rw f w' B A xs := fun hn => by
  obtain ⟨b, o, e, hB, hc⟩ := h hn
  exact ⟨b, o, e, hB, fun j x hx => (hb.cell (p := ⟨b, o + j, none⟩) hB).trans (hc j x hx)⟩

section
variable {H : Type} {enc : TypeId × Value → H} {W : World} {d : DataW H} {p : List MemPlace} {a0 : Option Addr} {len cap : Nat}

theorem open_nums (h : DataW.Trod enc Try.prog W 0 (fun _ => true) true 41 (.slice a0 len cap) d p) :
    len ≤ maxLen ∧ ∃ xs : List Int, xs.length = len ∧ Rw (Value.int .i64) W W.heap.size a0 xs := by
  obtain ⟨fuel, hf⟩ := h
  rcases open_ints Try.underlying41 Try.underlying3 (by kernel_rfl) hf with ⟨hcs, _⟩ | ⟨x, l, c, zs, hcs, _, hl, hm, hz, _, hcell, hwz⟩
  · simp [Value.cells] at hcs
    obtain ⟨rfl, rfl, rfl⟩ := hcs
    exact ⟨by unfold maxLen; omega, [], rfl, fun h => absurd rfl h⟩
  · simp [Value.cells] at hcs
    obtain ⟨rfl, rfl, rfl⟩ := hcs
    have hzl : zs.length = cap := by simpa using hz
    refine ⟨by omega, zs.take len, by rw [List.length_take]; omega, fun hne => ?_⟩
    have hpos : 0 < zs.length := by
      rcases Nat.eq_zero_or_pos zs.length with h0 | h0
      · exact absurd (by rw [List.eq_nil_of_length_eq_zero h0]; simp) hne
      · exact h0
    obtain ⟨b, off, rfl, hc⟩ := ints_at hcell hpos
    have hb : b < W.heap.size := World.block_lt_of_cell? W ⟨b, off + 0, none⟩ (hc 0 hpos)
    refine ⟨b, off, rfl, hb, fun j u hu => ?_⟩
    have hj : j < len := by
      have := (List.getElem?_eq_some_iff.1 hu).1
      rw [List.length_take] at this
      omega
    have hjz : j < zs.length := by omega
    rw [hc j hjz]
    rw [List.getElem?_take, if_pos hj] at hu
    rw [List.getD_eq_getElem?_getD, hu]
    rfl

theorem open_texts (h : DataW.Trod enc Try.prog W 0 (fun _ => true) true 42 (.slice a0 len cap) d p) :
    len ≤ maxLen ∧ ∃ xs : List ByteArray, xs.length = len ∧ (∀ s ∈ xs, s.size ≤ maxLen) ∧ Rw Value.string W W.heap.size a0 xs := by
  obtain ⟨fuel, hf⟩ := h
  rcases open_strings Try.underlying42 Try.underlying9 (by kernel_rfl) hf with ⟨hcs, _⟩ | ⟨x, l, c, zs, hcs, _, hl, hm, hz, _, hcell, hws⟩
  · simp [Value.cells] at hcs
    obtain ⟨rfl, rfl, rfl⟩ := hcs
    exact ⟨by unfold maxLen; omega, [], rfl, fun s hs => by simp at hs, fun h => absurd rfl h⟩
  · simp [Value.cells] at hcs
    obtain ⟨rfl, rfl, rfl⟩ := hcs
    have hzl : zs.length = cap := by simpa using hz
    refine ⟨by omega, zs.take len, by rw [List.length_take]; omega, fun s hs => hws s (List.mem_of_mem_take hs), fun hne => ?_⟩
    have hpos : 0 < zs.length := by
      rcases Nat.eq_zero_or_pos zs.length with h0 | h0
      · exact absurd (by rw [List.eq_nil_of_length_eq_zero h0]; simp) hne
      · exact h0
    obtain ⟨b, o, sp⟩ := x
    have hsp : sp = none := by simpa [Addr.add] using World.cell?_spot (hcell 0 hpos)
    subst hsp
    have hb : b < W.heap.size := by
      have := hcell 0 hpos
      rw [Addr.add_lit] at this
      exact World.block_lt_of_cell? W ⟨b, _, none⟩ this
    refine ⟨b, o, rfl, hb, fun j u hu => ?_⟩
    have hj : j < len := by
      have := (List.getElem?_eq_some_iff.1 hu).1
      rw [List.length_take] at this
      omega
    have hjz : j < zs.length := by omega
    have hc := hcell j hjz
    rw [Addr.add_lit] at hc
    rw [hc]
    rw [List.getElem?_take, if_pos hj] at hu
    rw [List.getD_eq_getElem?_getD, hu]
    rfl
end

/-- Numbers, and texts, laid one behind the other. -/
def encNums (xs : List Int) : List UInt8 := xs.flatMap fun z => enc (clamp z)
def encTexts (xs : List ByteArray) : List UInt8 := xs.flatMap fun s => enc s.size ++ s.data.toList

theorem encNums_snoc (xs : List Int) (k : Nat) (z : Int) (h : xs[k]? = some z) : encNums (xs.take (k + 1)) = encNums (xs.take k) ++ enc (clamp z) := by
  obtain ⟨hk, e⟩ := List.getElem?_eq_some_iff.1 h
  rw [List.take_succ_eq_append_getElem hk, e]
  simp [encNums]
theorem encTexts_snoc (xs : List ByteArray) (k : Nat) (s : ByteArray) (h : xs[k]? = some s) : encTexts (xs.take (k + 1)) = encTexts (xs.take k) ++ enc s.size ++ s.data.toList := by
  obtain ⟨hk, e⟩ := List.getElem?_eq_some_iff.1 h
  rw [List.take_succ_eq_append_getElem hk, e]
  simp [encTexts, List.append_assoc]
theorem encNums_cons (xs : List Int) (k : Nat) (z : Int) (h : xs[k]? = some z) : encNums (xs.drop k) = enc (clamp z) ++ encNums (xs.drop (k + 1)) := by
  obtain ⟨hk, e⟩ := List.getElem?_eq_some_iff.1 h
  rw [List.drop_eq_getElem_cons hk, e]
  simp [encNums]
theorem encTexts_cons (xs : List ByteArray) (k : Nat) (s : ByteArray) (h : xs[k]? = some s) : encTexts (xs.drop k) = enc s.size ++ s.data.toList ++ encTexts (xs.drop (k + 1)) := by
  obtain ⟨hk, e⟩ := List.getElem?_eq_some_iff.1 h
  rw [List.drop_eq_getElem_cons hk, e]
  simp [encTexts, List.append_assoc]

end Go.Proofs.Ytpajpapimdnjjaa.Pk
