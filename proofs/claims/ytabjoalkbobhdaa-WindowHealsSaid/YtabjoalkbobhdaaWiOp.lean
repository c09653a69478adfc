/-
  The plain statements' arguments: a slice of bytes, a slice of Fates. Plain theorems on readings.
-/
import Derived.Test.YtabjoalkbobhdaaRows
import Derived.WalkKit
import Derived.ProofKit
import Derived.OpenShut
import Derived.ShutString
import Derived.ChangeOld
import Derived.Below
import Derived.Deep.SlicePairs
import Derived.Test.YtabjoalkbobhdaaWiAwake
namespace Go.Proofs.Ytabjoalkbobhdaa.Wi
open Go.ChangeShapes Go.WideShapes Go.ChangeAt Go.RowKit Go.Deep
open Pk Dk Wn

theorem own : ownKnob Try.prog.godebug = none := by kernel_rfl
theorem laidOut : laidOutB Try.prog = true := by kernel_rfl
theorem u8_back (z : Int) (h : (Lit.int .u8 z).wf = true) : ((UInt8.ofNat z.toNat).toNat : Int) = z := by
  have hb := bounds_u8 h
  simp
  omega
def I64 (n : Int) : Prop := -9223372036854775808 ≤ n ∧ n ≤ 9223372036854775807
def Fits64 (l : List Pkt) : Prop := ∀ q ∈ l, I64 q.1 ∧ I64 q.2
/-- One byte of a row. -/
theorem Src.byte {w : World} {A : Option Addr} {l : List UInt8} {j : Nat} {b : UInt8} (h : Src w A (cels l)) (hb : l[j]? = some b) : ∃ g o, A = some ⟨g, o, none⟩ ∧ g < w.heap.size ∧ w.cell? ⟨g, o + j, none⟩ = some (.int .u8 (b.toNat : Int)) := by
  have hx : (cels l)[j]? = some (cel b) := by simp [cels, hb]
  obtain ⟨g, o, e, hl, hc⟩ := h (by intro e; rw [e] at hx; simp at hx)
  exact ⟨g, o, e, hl, hc _ _ hx⟩
section
variable {H : Type} {enc : TypeId × Value → H} {W : World} {d : DataW H} {p : List MemPlace} {a0 : Option Addr} {len cap : Nat}
theorem open_bytes (h : DataW.Trod enc Try.prog W 0 (fun _ => true) true 48 (.slice a0 len cap) d p) :
    ∃ l : List UInt8, l.length = len ∧ Src W a0 (cels l) := by
  obtain ⟨fuel, hf⟩ := h
  rcases open_ints Try.underlying48 Try.underlying5 (by kernel_rfl) hf with ⟨hcs, _⟩ | ⟨x, l, c, zs, hcs, _, hl, hm, hz, _, hcell, hwz⟩
  · simp [Value.cells] at hcs
    obtain ⟨rfl, rfl, rfl⟩ := hcs
    exact ⟨[], rfl, fun hn => absurd rfl hn⟩
  · simp [Value.cells] at hcs
    obtain ⟨rfl, rfl, rfl⟩ := hcs
    have hzl : zs.length = cap := by simpa using hz
    refine ⟨(zs.take len).map (fun z => UInt8.ofNat z.toNat), by rw [List.length_map, List.length_take]; omega, fun hne => ?_⟩
    have hpos : 0 < zs.length := by
      rcases Nat.eq_zero_or_pos zs.length with h0 | h0
      · exact absurd (by rw [List.eq_nil_of_length_eq_zero h0]; simp [cels]) hne
      · exact h0
    obtain ⟨b, off, rfl, hc⟩ := ints_at hcell hpos
    have hb : b < W.heap.size := World.block_lt_of_cell? W ⟨b, off + 0, none⟩ (hc 0 hpos)
    refine ⟨b, off, rfl, hb, fun j u hu => ?_⟩
    have hj : j < len := by
      have := (List.getElem?_eq_some_iff.1 hu).1
      rw [cels_length, List.length_map, List.length_take] at this
      omega
    have hjz : j < zs.length := by omega
    rw [hc j hjz]
    obtain ⟨b', hb', rfl⟩ := cels_get _ _ _ hu
    rw [List.getElem?_map, List.getElem?_take, if_pos hj, List.getElem?_eq_getElem hjz] at hb'
    simp only [Option.map_some, Option.some.injEq] at hb'
    subst hb'
    rw [cel, u8_back _ (hwz _ (List.getElem_mem hjz)), List.getD_eq_getElem?_getD, List.getElem?_eq_getElem hjz]
    rfl

set_option maxRecDepth 100000 in
theorem open_fates (h : DataW.Trod enc Try.prog W 0 (fun _ => true) true 22 (.slice a0 len cap) d p) :
    ∃ l : List Pkt, l.length = len ∧ Fits64 l ∧ Src W a0 (pcels l) := by
  obtain ⟨fuel, hf⟩ := h
  rcases open_slice Try.underlying22 hf with ⟨hcs, _⟩ | ⟨x, l, c, m, n, D, Pl, hcs, _, hl, hm, hmm, _, hc⟩
  · simp [Value.cells] at hcs
    obtain ⟨rfl, rfl, rfl⟩ := hcs
    exact ⟨[], rfl, fun q hq => (by cases hq), fun hl => absurd rfl hl⟩
  · simp [Value.cells] at hcs
    obtain ⟨rfl, rfl, rfl⟩ := hcs
    have hmc : m = cap := by simpa using hmm
    subst hmc
    have ce : Try.prog.cellsOf 33 = 2 := by kernel_rfl
    have c1 : Try.prog.cellsOf 3 = 1 := by kernel_rfl
    have each : ∀ i, i < m → ∃ q : Pkt, (∀ j u, (pcel q)[j]? = some u → W.cell? (x.add (i * 2 + j)) = some u) ∧ (I64 q.1 ∧ I64 q.2) := fun i hi => by
      obtain ⟨cs', g1, g2⟩ := hc i hi
      rw [ce] at g1
      obtain ⟨_, hlen, hcell⟩ := World.cells?_some g1
      obtain ⟨y0, y1, k, _, _, t0, t1⟩ := trod_struct2 Try.underlying33 g2
      match cs', hlen with
      | [v0, v1], _ =>
        simp [c1] at t0 t1
        obtain ⟨k0, e0, _, w0⟩ := DataW.trod_int Try.underlying3 t0
        obtain ⟨k1, e1, _, w1⟩ := DataW.trod_int Try.underlying3 t1
        simp at e0 e1
        subst e0 e1
        refine ⟨(k0, k1), fun j u hu => ?_, bounds_i64 w0, bounds_i64 w1⟩
        have hj : j < 2 := by have := (List.getElem?_eq_some_iff.1 hu).1; simpa [pcel] using this
        have e := hcell j hj
        rw [Addr.add_add] at e
        rw [e]
        exact hu
    obtain ⟨q, hq⟩ := choose_lt each
    refine ⟨(List.range len).map q, by simp, fun x hx => ?_, fun hpos => ?_⟩
    · obtain ⟨i, hi, rfl⟩ := List.mem_map.1 hx
      have hi' := List.mem_range.1 hi
      exact (hq i (by omega)).2
    · have hlp : 0 < len := by
        rcases Nat.eq_zero_or_pos len with h0 | h0
        · exact absurd (by rw [h0]; rfl) hpos
        · exact h0
      obtain ⟨b, o, sp⟩ := x
      have hsp : sp = none := by
        simpa [Addr.add] using World.cell?_spot ((hq 0 (by omega)).1 0 _ rfl)
      subst hsp
      have hb : b < W.heap.size := by
        have := (hq 0 (by omega)).1 0 _ rfl
        rw [Addr.add_lit] at this
        exact World.block_lt_of_cell? W ⟨b, _, none⟩ this
      refine ⟨b, o, rfl, hb, fun j u hu => ?_⟩
      have hjl : j < len * 2 := by
        have := (List.getElem?_eq_some_iff.1 hu).1
        rw [pcels_len, List.length_map, List.length_range] at this
        exact this
      obtain ⟨i, r, rfl, hr⟩ : ∃ i r, j = i * 2 + r ∧ r < 2 := ⟨j / 2, j % 2, by omega, by omega⟩
      have hg : (pcels ((List.range len).map q))[i * 2 + r]? = (pcel (q i))[r]? := flat_get _ (pcel_len _) i r (q i) (by simp [show i < len by omega]) hr
      rw [hg] at hu
      have := (hq i (by omega)).1 r u hu
      rwa [Addr.add_lit] at this
end
end Go.Proofs.Ytabjoalkbobhdaa.Wi
