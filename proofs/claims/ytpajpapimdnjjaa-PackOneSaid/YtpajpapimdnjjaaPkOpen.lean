/-
  How the statements' arguments are opened: a slice of bytes that came in as a list of bytes, and a slice of steps (two integers each) as its cells. Plain theorems on readings.
-/
import Derived.Test.YtpajpapimdnjjaaRows
import Derived.WalkKit
import Derived.ProofKit
import Derived.OpenShut
import Derived.ShutString
import Derived.ChangeOld
import Derived.Below
import Derived.Deep.SlicePairs
import Derived.Test.YtpajpapimdnjjaaPkLaw
namespace Go.Proofs.Ytpajpapimdnjjaa.Pk
open Go.ChangeShapes Go.WideShapes Go.ChangeAt Go.RowKit Go.Deep

theorem u8_back (z : Int) (h : (Lit.int .u8 z).wf = true) : ((UInt8.ofNat z.toNat).toNat : Int) = z := by
  have hb := bounds_u8 h
  rw [ofNat_toNat _ (by omega)]
  omega

section
variable {H : Type} {enc : TypeId × Value → H} {W : World} {d : DataW H} {p : List MemPlace} {a0 : Option Addr} {len cap : Nat}

/-- A slice of bytes that came in. -/
theorem open_bytes (h : DataW.Trod enc Try.prog W 0 (fun _ => true) true 22 (.slice a0 len cap) d p) :
    ∃ l : List UInt8, l.length = len ∧ len ≤ cap ∧ cap ≤ maxLen ∧ Byt W W.heap.size a0 l := by
  obtain ⟨fuel, hf⟩ := h
  rcases open_ints Try.underlying22 Try.underlying5 (by kernel_rfl) hf with ⟨hcs, _⟩ | ⟨x, l, c, zs, hcs, _, hl, hm, hz, _, hcell, hwz⟩
  · simp [Value.cells] at hcs
    obtain ⟨rfl, rfl, rfl⟩ := hcs
    exact ⟨[], rfl, Nat.le_refl _, by unfold maxLen; omega, Byt.nil⟩
  · simp [Value.cells] at hcs
    obtain ⟨rfl, rfl, rfl⟩ := hcs
    have hzl : zs.length = cap := by simpa using hz
    refine ⟨(zs.take len).map (fun z => UInt8.ofNat z.toNat), by rw [List.length_map, List.length_take]; omega, hl, hm, fun hne => ?_⟩
    have hpos : 0 < zs.length := by
      rcases Nat.eq_zero_or_pos zs.length with h0 | h0
      · exact absurd (by rw [List.eq_nil_of_length_eq_zero h0]; simp) hne
      · exact h0
    obtain ⟨b, off, rfl, hc⟩ := ints_at hcell hpos
    have hb : b < W.heap.size := World.block_lt_of_cell? W ⟨b, off + 0, none⟩ (hc 0 hpos)
    refine ⟨b, off, rfl, hb, fun j u hu => ?_⟩
    have hj : j < len := by
      have := (List.getElem?_eq_some_iff.1 hu).1
      rw [List.length_map, List.length_take] at this
      omega
    have hjz : j < zs.length := by omega
    rw [hc j hjz]
    rw [List.getElem?_map, List.getElem?_take, if_pos hj, List.getElem?_eq_getElem hjz] at hu
    simp only [Option.map_some, Option.some.injEq] at hu
    subst hu
    rw [cel, u8_back _ (hwz _ (List.getElem_mem hjz)), List.getD_eq_getElem?_getD, List.getElem?_eq_getElem hjz]
    rfl

/-- The steps' cells: a kind and a number each. -/
def Stp (W : World) (B : Nat) (A : Option Addr) (len : Nat) (K N : Nat → Int) : Prop :=
  0 < len → ∃ b o, A = some ⟨b, o, none⟩ ∧ b < B ∧ ∀ i, i < len → W.cell? ⟨b, o + i * 2, none⟩ = some (.int .i64 (K i)) ∧ W.cell? ⟨b, o + i * 2 + 1, none⟩ = some (.int .i64 (N i))

theorem Stp.below {W w' : World} {B len : Nat} {A : Option Addr} {K N : Nat → Int} (h : Stp W B A len K N) (hb : Below B W w') : Stp w' B A len K N := fun hl => by
  obtain ⟨b, o, e, hB, hc⟩ := h hl
  exact ⟨b, o, e, hB, fun i hi => ⟨(hb.cell (p := ⟨b, o + i * 2, none⟩) hB).trans (hc i hi).1, (hb.cell (p := ⟨b, o + i * 2 + 1, none⟩) hB).trans (hc i hi).2⟩⟩

theorem open_stp (h : DataW.Trod enc Try.prog W 0 (fun _ => true) true 29 (.slice a0 len cap) d p) :
    len ≤ maxLen ∧ ∃ K N : Nat → Int, (∀ i, i < len → (Lit.int .i64 (N i)).wf = true) ∧ Stp W W.heap.size a0 len K N := by
  obtain ⟨fuel, hf⟩ := h
  rcases open_slice_pairs Try.underlying29 Try.underlying36 (by kernel_rfl) rfl rfl (by kernel_rfl) (by kernel_rfl) hf with ⟨hcs, _⟩ | ⟨x, l, c, m, n, V0, V1, D0, D1, P0, P1, hcs, _, hl, hm, hmm, _, hc⟩
  · simp [Value.cells] at hcs
    obtain ⟨rfl, rfl, rfl⟩ := hcs
    exact ⟨by unfold maxLen; omega, fun _ => 0, fun _ => 0, fun i hi => by omega, fun hl => by omega⟩
  · simp [Value.cells] at hcs
    obtain ⟨rfl, rfl, rfl⟩ := hcs
    have hmc : m = cap := by simpa using hmm
    subst hmc
    have each : ∀ i, i < m → ∃ q : Int × Int, V0 i = .int .i64 q.1 ∧ V1 i = .int .i64 q.2 ∧ (Lit.int .i64 q.2).wf = true := fun i hi => by
      obtain ⟨_, _, g0, g1⟩ := hc i hi
      obtain ⟨k0, e0, _, _⟩ := DataW.trod_int Try.underlying3 g0
      obtain ⟨k1, e1, _, w1⟩ := DataW.trod_int Try.underlying3 g1
      simp at e0 e1
      exact ⟨(k0, k1), e0, e1, w1⟩
    obtain ⟨q, hq⟩ := choose_lt each
    refine ⟨by omega, fun i => (q i).1, fun i => (q i).2, fun i hi => (hq i (by omega)).2.2, fun hpos => ?_⟩
    obtain ⟨b, o, sp⟩ := x
    have hsp : sp = none := by simpa [Addr.add] using World.cell?_spot (hc 0 (by omega)).1
    subst hsp
    have hb : b < W.heap.size := by
      have := (hc 0 (by omega)).1
      rw [Addr.add_lit] at this
      exact World.block_lt_of_cell? W ⟨b, _, none⟩ this
    refine ⟨b, o, rfl, hb, fun i hi => ?_⟩
    obtain ⟨c0, c1, _, _⟩ := hc i (by omega)
    rw [Addr.add_lit] at c0 c1
    rw [(hq i (by omega)).1] at c0
    rw [(hq i (by omega)).2.1] at c1
    exact ⟨c0, by rw [Nat.add_assoc]; exact c1⟩
end

end Go.Proofs.Ytpajpapimdnjjaa.Pk
