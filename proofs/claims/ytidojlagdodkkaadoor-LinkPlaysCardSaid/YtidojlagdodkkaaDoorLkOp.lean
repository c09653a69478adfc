/-
  The statements' arguments: a slice of bytes, of texts, of Ops, as numbers and texts; what the statements' own few returns. Nothing is changed.
-/
import Derived.Test.YtidojlagdodkkaaDoorRows
import Derived.WalkKit
import Derived.ProofKit
import Derived.OpenShut
import Derived.ShutString
import Derived.ChangeOld
import Derived.Below
import Derived.Deep.SlicePairs
import Derived.Lib.SmallJoins
import Derived.Test.YtidojlagdodkkaaDoorLkRow
namespace Go.Proofs.YtidojlagdodkkaaDoor.Lk
open Go.ChangeShapes Go.WideShapes Go.ChangeAt Go.RowKit Go.Deep Go.Joins
open Pk Dk Wn

theorem own : ownKnob Tryd.prog.godebug = none := by kernel_rfl
theorem laidOut : laidOutB Tryd.prog = true := by kernel_rfl
theorem u8_back (z : Int) (h : (Lit.int .u8 z).wf = true) : ((UInt8.ofNat z.toNat).toNat : Int) = z := by
  have hb := bounds_u8 h
  simp
  omega
/-- One byte of a row. -/
theorem Src.byte {w : World} {A : Option Addr} {l : List UInt8} {j : Nat} {b : UInt8} (h : Src w A (cels l)) (hb : l[j]? = some b) : ∃ g o, A = some ⟨g, o, none⟩ ∧ g < w.heap.size ∧ w.cell? ⟨g, o + j, none⟩ = some (.int .u8 (b.toNat : Int)) := by
  have hx : (cels l)[j]? = some (cel b) := by simp [cels, hb]
  obtain ⟨g, o, e, hl, hc⟩ := h (by intro e; rw [e] at hx; simp at hx)
  exact ⟨g, o, e, hl, hc _ _ hx⟩
section
variable {H : Type} {enc : TypeId × Value → H} {W : World} {d : DataW H} {p : List MemPlace} {a0 : Option Addr} {len cap : Nat}
end

/-! ### Texts -/
def texts (l : List ByteArray) : List Value := l.map Value.string
theorem Src.text {w : World} {A : Option Addr} {l : List ByteArray} {j : Nat} {s : ByteArray} (h : Src w A (texts l)) (hs : l[j]? = some s) : ∃ g o, A = some ⟨g, o, none⟩ ∧ g < w.heap.size ∧ w.cell? ⟨g, o + j, none⟩ = some (.string s) := by
  have hx : (texts l)[j]? = some (.string s) := by simp [texts, hs]
  obtain ⟨g, o, e, hl, hc⟩ := h (by intro e; rw [e] at hx; simp at hx)
  exact ⟨g, o, e, hl, hc _ _ hx⟩
section
variable {H : Type} {enc : TypeId × Value → H} {W : World} {d : DataW H} {p : List MemPlace} {a0 : Option Addr} {len cap : Nat}
theorem open_texts (h : DataW.Trod enc Tryd.prog W 0 (fun _ => true) true 33 (.slice a0 len cap) d p) :
    ∃ xs : List ByteArray, xs.length = len ∧ Src W a0 (texts xs) := by
  obtain ⟨fuel, hf⟩ := h
  rcases open_strings Tryd.underlying33 Tryd.underlying9 (by kernel_rfl) hf with ⟨hcs, _⟩ | ⟨x, l, c, zs, hcs, _, hl, hm, hz, _, hcell, hws⟩
  · simp [Value.cells] at hcs
    obtain ⟨rfl, rfl, rfl⟩ := hcs
    exact ⟨[], rfl, fun h => absurd rfl h⟩
  · simp [Value.cells] at hcs
    obtain ⟨rfl, rfl, rfl⟩ := hcs
    have hzl : zs.length = cap := by simpa using hz
    refine ⟨zs.take len, by rw [List.length_take]; omega, fun hne => ?_⟩
    have hpos : 0 < zs.length := by
      rcases Nat.eq_zero_or_pos zs.length with h0 | h0
      · exact absurd (by rw [List.eq_nil_of_length_eq_zero h0]; simp [texts]) hne
      · exact h0
    obtain ⟨b, o, sp⟩ := x
    have hsp : sp = none := by simpa [Addr.add] using World.cell?_spot (hcell 0 hpos)
    subst hsp
    have hb : b < W.heap.size := by
      have := hcell 0 hpos
      rw [Addr.add_lit] at this
      exact World.block_lt_of_cell? W ⟨b, _, none⟩ this
    refine ⟨b, o, rfl, hb, fun j u hu => ?_⟩
    have hj : j < len := by
      have := (List.getElem?_eq_some_iff.1 hu).1
      rw [texts, List.length_map, List.length_take] at this
      omega
    have hjz : j < zs.length := by omega
    have hc := hcell j hjz
    rw [Addr.add_lit] at hc
    rw [hc]
    rw [texts, List.getElem?_map, List.getElem?_take, if_pos hj, List.getElem?_eq_getElem hjz] at hu
    rw [List.getD_eq_getElem?_getD, List.getElem?_eq_getElem hjz]
    simpa using hu
end

/-! ### Ops -/
/-- Kind, I, S, On. -/
structure Oq where
  kind : Int
  n : Int
  s : ByteArray
  on : Bool
instance : Inhabited Oq := ⟨⟨0, 0, ⟨#[]⟩, false⟩⟩
def ocel (q : Oq) : List Value := [.int .i64 q.kind, .int .i64 q.n, .string q.s, .bool q.on]
def ocels (l : List Oq) : List Value := l.flatMap ocel
theorem ocel_len (l : List Oq) : ∀ q ∈ l, (ocel q).length = 4 := fun _ _ => rfl
theorem ocels_len (l : List Oq) : (ocels l).length = l.length * 4 := flat_len l (ocel_len l)
theorem Src.op {w : World} {A : Option Addr} {l : List Oq} {j : Nat} {q : Oq} (h : Src w A (ocels l)) (hq : l[j]? = some q) : ∃ g o, A = some ⟨g, o, none⟩ ∧ g < w.heap.size ∧ w.cell? ⟨g, o + j * 4, none⟩ = some (.int .i64 q.kind) ∧ w.cell? ⟨g, o + j * 4 + 1, none⟩ = some (.int .i64 q.n) ∧ w.cell? ⟨g, o + j * 4 + 2, none⟩ = some (.string q.s) ∧ w.cell? ⟨g, o + j * 4 + 3, none⟩ = some (.bool q.on) := by
  have h0 : (ocels l)[j * 4 + 0]? = some (.int .i64 q.kind) := flat_get l (ocel_len l) j 0 q hq (by omega)
  have h1 : (ocels l)[j * 4 + 1]? = some (.int .i64 q.n) := flat_get l (ocel_len l) j 1 q hq (by omega)
  have h2 : (ocels l)[j * 4 + 2]? = some (.string q.s) := flat_get l (ocel_len l) j 2 q hq (by omega)
  have h3 : (ocels l)[j * 4 + 3]? = some (.bool q.on) := flat_get l (ocel_len l) j 3 q hq (by omega)
  obtain ⟨g, o, e, hl, hc⟩ := h (by intro e; rw [e] at h0; simp at h0)
  exact ⟨g, o, e, hl, hc _ _ h0, by rw [Nat.add_assoc]; exact hc _ _ h1, by rw [Nat.add_assoc]; exact hc _ _ h2, by rw [Nat.add_assoc]; exact hc _ _ h3⟩
section
variable {H : Type} {enc : TypeId × Value → H} {W : World} {d : DataW H} {p : List MemPlace} {a0 : Option Addr} {len cap : Nat}
set_option maxRecDepth 100000 in
theorem open_ops10 (h : DataW.Trod enc Tryd.prog W 0 (fun _ => true) true 22 (.slice a0 len cap) d p) :
    ∃ l : List Oq, l.length = len ∧ Src W a0 (ocels l) := by
  obtain ⟨fuel, hf⟩ := h
  rcases open_slice Tryd.underlying22 hf with ⟨hcs, _⟩ | ⟨x, l, c, m, n, D, Pl, hcs, _, hl, hm, hmm, _, hc⟩
  · simp [Value.cells] at hcs
    obtain ⟨rfl, rfl, rfl⟩ := hcs
    exact ⟨[], rfl, fun hl => absurd rfl hl⟩
  · simp [Value.cells] at hcs
    obtain ⟨rfl, rfl, rfl⟩ := hcs
    have hmc : m = cap := by simpa using hmm
    subst hmc
    have ce : Tryd.prog.cellsOf 30 = 4 := by kernel_rfl
    have c1 : Tryd.prog.cellsOf 3 = 1 := by kernel_rfl
    have c3 : Tryd.prog.cellsOf 9 = 1 := by kernel_rfl
    have c4 : Tryd.prog.cellsOf 4 = 1 := by kernel_rfl
    have each : ∀ i, i < m → ∃ q : Oq, (∀ j u, (ocel q)[j]? = some u → W.cell? (x.add (i * 4 + j)) = some u) := fun i hi => by
      obtain ⟨cs', g1, g2⟩ := hc i hi
      rw [ce] at g1
      obtain ⟨_, hlen, hcell⟩ := World.cells?_some g1
      obtain ⟨y0, y1, y2, y3, k, _, _, t0, t1, t2, t3⟩ := trod_struct4 Tryd.underlying30 g2
      match cs', hlen with
      | [v0, v1, v2, v3], _ =>
        simp [c1, c3, c4] at t0 t1 t2 t3
        obtain ⟨k0, e0, _, w0⟩ := DataW.trod_int Tryd.underlying3 t0
        obtain ⟨k1, e1, _, w1⟩ := DataW.trod_int Tryd.underlying3 t1
        obtain ⟨s2, e2, _, w2⟩ := DataW.trod_string Tryd.underlying9 t2
        obtain ⟨b3, e3, _⟩ := DataW.trod_bool Tryd.underlying4 t3
        simp at e0 e1 e2 e3
        subst e0 e1 e2 e3
        refine ⟨⟨k0, k1, s2, b3⟩, fun j u hu => ?_⟩
        have hj : j < 4 := by have := (List.getElem?_eq_some_iff.1 hu).1; simpa [ocel] using this
        have e := hcell j hj
        rw [Addr.add_add] at e
        rw [e]
        exact hu
    obtain ⟨q, hq⟩ := choose_lt each
    refine ⟨(List.range len).map q, by simp, fun hpos => ?_⟩
    have hlp : 0 < len := by
      rcases Nat.eq_zero_or_pos len with h0 | h0
      · exact absurd (by rw [h0]; rfl) hpos
      · exact h0
    obtain ⟨b, o, sp⟩ := x
    have hsp : sp = none := by
      simpa [Addr.add] using World.cell?_spot (hq 0 (by omega) 0 _ rfl)
    subst hsp
    have hb : b < W.heap.size := by
      have := hq 0 (by omega) 0 _ rfl
      rw [Addr.add_lit] at this
      exact World.block_lt_of_cell? W ⟨b, _, none⟩ this
    refine ⟨b, o, rfl, hb, fun j u hu => ?_⟩
    have hjl : j < len * 4 := by
      have := (List.getElem?_eq_some_iff.1 hu).1
      rw [ocels_len, List.length_map, List.length_range] at this
      exact this
    obtain ⟨i, r, rfl, hr⟩ : ∃ i r, j = i * 4 + r ∧ r < 4 := ⟨j / 4, j % 4, by omega, by omega⟩
    have hg : (ocels ((List.range len).map q))[i * 4 + r]? = (ocel (q i))[r]? := flat_get _ (ocel_len _) i r (q i) (by simp [show i < len by omega]) hr
    rw [hg] at hu
    have := hq i (by omega) r u hu
    rwa [Addr.add_lit] at this
end

/-! ### few -/
set_option maxRecDepth 100000 in
set_option maxHeartbeats 1000000 in
theorem few_any (A : Option Addr) (n c : Nat) (l : List Oq) (w : World) (hl : l.length = n) (hs : Src w A (ocels l)) :
    Calls Tryd.prog 8 #[.slice A n c] w fun r w' => ∃ b : Bool, r = .returned (.bool b) ∧ (b = true → n ≤ 300) ∧ Below w.heap.size w w' := by
  have HB := hide (Below.refl w.heap.size w)
  by_cases hn : 300 < n
  · have hni : (300 : Int) < (n : Int) := by omega
    clear hl hs
    go_enter Tryd.func8, Tryd.ntmps8
    go_wp2
    go_ret
    exact ⟨false, rfl, fun h => (by cases h), HB.out⟩
  · have hni : ¬ (300 : Int) < (n : Int) := by omega
    have hni2 : (n : Int) ≤ 300 := by omega
    have Hl := hide hl
    have Hs := hide hs
    have Hn := hide (show n ≤ 300 by omega)
    clear hl hs hn
    go_enter Tryd.func8, Tryd.ntmps8
    go_wp2
    go_loopw [9] (fun j wr => ∃ k : Nat, k ≤ n ∧ j = .int .i64 (k : Int) ∧ Hid (Below w.heap.size w wr)) (fun j _ => n - (intOf j).toNat)
    case atStart => exact ⟨0, Nat.zero_le _, rfl, HB.out⟩
    case round =>
      obtain ⟨k, hk, rfl, hw⟩ := hrel
      clear HB
      rcases Nat.lt_or_ge k n with hlt | hge
      · have Hlt := hide hlt
        have hki : (k : Int) < (n : Int) := by omega
        obtain ⟨q, hq⟩ : ∃ q, l[k]? = some q := ⟨_, List.getElem?_eq_getElem (by rw [Hl.out]; exact hlt)⟩
        obtain ⟨g, o, rfl, _, c0, c1, c2, c3⟩ := Src.op (Hs.out.below hw.out) hq
        clear hq hlt
        by_cases h100 : 100 < q.s.size
        · have h100i : (100 : Int) < (q.s.size : Int) := by omega
          go_wp2
          go_ret
          exact ⟨false, rfl, fun h => (by cases h), hw.out⟩
        · have h100i : ¬ (100 : Int) < (q.s.size : Int) := by omega
          go_wp2
          go_roundw
          case rel => exact ⟨k + 1, Hlt.out, by go_num, hw⟩
          case measure => have := Hlt.out; simp [intOf]; omega
      · obtain rfl : k = n := by omega
        clear hge hk
        go_wp2
        go_ret
        exact ⟨true, rfl, fun _ => Hn.out, hw.out⟩

end Go.Proofs.YtidojlagdodkkaaDoor.Lk
