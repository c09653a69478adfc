/-
  The statements' arguments: a slice of Ops, a slice of ints, as numbers. Nothing is changed.
-/
import Derived.Test.YthoflpjmdhabmaaDoorRows
import Derived.WalkKit
import Derived.ProofKit
import Derived.OpenShut
import Derived.ShutString
import Derived.ChangeOld
import Derived.Below
import Derived.Deep.SlicePairs
import Derived.Lib.SmallJoins
import Derived.Test.YthoflpjmdhabmaaDoorMbAwake
namespace Go.Proofs.YthoflpjmdhabmaaDoor.Mb
open Go.ChangeShapes Go.WideShapes Go.ChangeAt Go.RowKit Go.Deep Go.Joins
open Pk Dk Wn Lk

theorem own : ownKnob Tryd.prog.godebug = none := by kernel_rfl
theorem laidOut : laidOutB Tryd.prog = true := by kernel_rfl

/-- Kind, V, M. -/
structure Oq where
  kind : Int
  v : Int
  m : Int
instance : Inhabited Oq := ⟨⟨0, 0, 0⟩⟩
def ocel (q : Oq) : List Value := [.int .i64 q.kind, .int .i64 q.v, .int .i64 q.m]
def ocels (l : List Oq) : List Value := l.flatMap ocel
theorem ocel_len (l : List Oq) : ∀ q ∈ l, (ocel q).length = 3 := fun _ _ => rfl
theorem ocels_len (l : List Oq) : (ocels l).length = l.length * 3 := flat_len l (ocel_len l)
def OFit (q : Oq) : Prop := I64 q.kind ∧ I64 q.v ∧ I64 q.m
def Fits (l : List Int) : Prop := ∀ v ∈ l, I64 v
def OFits (l : List Oq) : Prop := ∀ q ∈ l, OFit q
/-- The cells of an Op. -/
structure OAt (w : World) (g o : Nat) (q : Oq) : Prop where
  kind : w.cell? ⟨g, o, none⟩ = some (.int .i64 q.kind)
  v : w.cell? ⟨g, o + 1, none⟩ = some (.int .i64 q.v)
  m : w.cell? ⟨g, o + 2, none⟩ = some (.int .i64 q.m)
theorem Src.op {w : World} {A : Option Addr} {l : List Oq} {j : Nat} {q : Oq} (h : Src w A (ocels l)) (hq : l[j]? = some q) : ∃ g o, A = some ⟨g, o, none⟩ ∧ g < w.heap.size ∧ OAt w g (o + j * 3) q := by
  have f := fun i (hi : i < 3) => flat_get (f := ocel) l (ocel_len l) j i q hq hi
  have h0 : (ocels l)[j * 3 + 0]? = some (.int .i64 q.kind) := f 0 (by omega)
  have h1 : (ocels l)[j * 3 + 1]? = some (.int .i64 q.v) := f 1 (by omega)
  have h2 : (ocels l)[j * 3 + 2]? = some (.int .i64 q.m) := f 2 (by omega)
  obtain ⟨g, o, e, hl, hc⟩ := h (by intro e; rw [e] at h0; simp at h0)
  exact ⟨g, o, e, hl, hc _ _ h0, by rw [Nat.add_assoc]; exact hc _ _ h1, by rw [Nat.add_assoc]; exact hc _ _ h2⟩

section
variable {H : Type} {enc : TypeId × Value → H} {W : World} {d : DataW H} {p : List MemPlace} {a0 : Option Addr} {len cap : Nat}
theorem i64_of {z : Int} (h : (Lit.int .i64 z).wf = true) : I64 z := by
  have := bounds_i64 h
  unfold I64
  omega
set_option maxRecDepth 100000 in
theorem open_ops15 (h : DataW.Trod enc Tryd.prog W 0 (fun _ => true) true 23 (.slice a0 len cap) d p) :
    ∃ l : List Oq, l.length = len ∧ OFits l ∧ Src W a0 (ocels l) := by
  obtain ⟨fuel, hf⟩ := h
  rcases open_slice Tryd.underlying23 hf with ⟨hcs, _⟩ | ⟨x, l, c, m, n, D, Pl, hcs, _, hl, hm, hmm, _, hc⟩
  · simp [Value.cells] at hcs
    obtain ⟨rfl, rfl, rfl⟩ := hcs
    exact ⟨[], rfl, fun q hq => (by cases hq), fun hl => absurd rfl hl⟩
  · simp [Value.cells] at hcs
    obtain ⟨rfl, rfl, rfl⟩ := hcs
    have hmc : m = cap := by simpa using hmm
    subst hmc
    have ce : Tryd.prog.cellsOf 35 = 3 := by kernel_rfl
    have c1 : Tryd.prog.cellsOf 3 = 1 := by kernel_rfl
    have each : ∀ i, i < m → ∃ q : Oq, (∀ j u, (ocel q)[j]? = some u → W.cell? (x.add (i * 3 + j)) = some u) ∧ OFit q := fun i hi => by
      obtain ⟨cs', g1, g2⟩ := hc i hi
      rw [ce] at g1
      obtain ⟨_, hlen, hcell⟩ := World.cells?_some g1
      obtain ⟨y0, y1, y2, k, _, _, t0, t1, t2⟩ := trod_struct3 Tryd.underlying35 g2
      match cs', hlen with
      | [v0, v1, v2], _ =>
        simp [c1] at t0 t1 t2
        obtain ⟨k0, e0, _, w0⟩ := DataW.trod_int Tryd.underlying3 t0
        obtain ⟨k1, e1, _, w1⟩ := DataW.trod_int Tryd.underlying3 t1
        obtain ⟨k2, e2, _, w2⟩ := DataW.trod_int Tryd.underlying3 t2
        simp at e0 e1 e2
        subst e0 e1 e2
        refine ⟨⟨k0, k1, k2⟩, fun j u hu => ?_, i64_of w0, i64_of w1, i64_of w2⟩
        have hj : j < 3 := by have := (List.getElem?_eq_some_iff.1 hu).1; simpa [ocel] using this
        have e := hcell j hj
        rw [Addr.add_add] at e
        rw [e]
        exact hu
    obtain ⟨q, hq⟩ := choose_lt each
    refine ⟨(List.range len).map q, by simp, fun x hx => by
      obtain ⟨i, hi, rfl⟩ := List.mem_map.1 hx
      have hi' := List.mem_range.1 hi
      exact (hq i (by omega)).2, fun hpos => ?_⟩
    have hlp : 0 < len := by
      rcases Nat.eq_zero_or_pos len with h0 | h0
      · exact absurd (by rw [h0]; rfl) hpos
      · exact h0
    obtain ⟨b, o, sp⟩ := x
    have hsp : sp = none := by
      simpa [Addr.add] using World.cell?_spot ((hq 0 (by omega)).1 0 _ rfl)
    subst hsp
    have hb : b < W.heap.size := by
      have := (hq 0 (by omega)).1 0 _ rfl
      rw [Addr.add_lit] at this
      exact World.block_lt_of_cell? W ⟨b, _, none⟩ this
    refine ⟨b, o, rfl, hb, fun j u hu => ?_⟩
    have hjl : j < len * 3 := by
      have := (List.getElem?_eq_some_iff.1 hu).1
      rw [ocels_len, List.length_map, List.length_range] at this
      exact this
    obtain ⟨i, r, rfl, hr⟩ : ∃ i r, j = i * 3 + r ∧ r < 3 := ⟨j / 3, j % 3, by omega, by omega⟩
    have hg : (ocels ((List.range len).map q))[i * 3 + r]? = (ocel (q i))[r]? := flat_get _ (ocel_len _) i r (q i) (by simp [show i < len by omega]) hr
    rw [hg] at hu
    have := (hq i (by omega)).1 r u hu
    rwa [Addr.add_lit] at this
theorem open_nums15 (h : DataW.Trod enc Tryd.prog W 0 (fun _ => true) true 22 (.slice a0 len cap) d p) :
    ∃ xs : List Int, xs.length = len ∧ Fits xs ∧ Src W a0 (nums xs) := by
  obtain ⟨fuel, hf⟩ := h
  rcases open_ints Tryd.underlying22 Tryd.underlying3 (by kernel_rfl) hf with ⟨hcs, _⟩ | ⟨x, l, c, zs, hcs, _, hl, hm, hz, _, hcell, hwz⟩
  · simp [Value.cells] at hcs
    obtain ⟨rfl, rfl, rfl⟩ := hcs
    exact ⟨[], rfl, fun v hv => (by cases hv), fun h => absurd rfl h⟩
  · simp [Value.cells] at hcs
    obtain ⟨rfl, rfl, rfl⟩ := hcs
    have hzl : zs.length = cap := by simpa using hz
    refine ⟨zs.take len, by rw [List.length_take]; omega, fun v hv => ?_, fun hne => ?_⟩
    · exact i64_of (hwz v (List.mem_of_mem_take hv))
    have hpos : 0 < zs.length := by
      rcases Nat.eq_zero_or_pos zs.length with h0 | h0
      · exact absurd (by rw [List.eq_nil_of_length_eq_zero h0]; simp [nums]) hne
      · exact h0
    obtain ⟨b, off, rfl, hc⟩ := ints_at hcell hpos
    have hb : b < W.heap.size := World.block_lt_of_cell? W ⟨b, off + 0, none⟩ (hc 0 hpos)
    refine ⟨b, off, rfl, hb, fun j u hu => ?_⟩
    have hj : j < len := by
      have := (List.getElem?_eq_some_iff.1 hu).1
      simp [nums] at this
      omega
    have hjz : j < zs.length := by omega
    have hu' : u = .int .i64 zs[j] := by
      simp [nums, List.getElem?_take_of_lt hj, List.getElem?_eq_getElem hjz] at hu
      exact hu.symm
    rw [hu', hc j hjz]
    simp [List.getD, List.getElem?_eq_getElem hjz]
end

end Go.Proofs.YthoflpjmdhabmaaDoor.Mb
