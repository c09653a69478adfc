/-
  The statements' arguments: a slice of Ops, a slice of Ticks, as numbers. Nothing is changed.
-/
import Derived.Test.YtmbhnhfnimijcaaDoorRows
import Derived.WalkKit
import Derived.ProofKit
import Derived.OpenShut
import Derived.ShutString
import Derived.ChangeOld
import Derived.Below
import Derived.Deep.SlicePairs
import Derived.Lib.SmallJoins
import Derived.Test.YtmbhnhfnimijcaaDoorLeOps
namespace Go.Proofs.YtmbhnhfnimijcaaDoor.Le
open Go.ChangeShapes Go.WideShapes Go.ChangeAt Go.RowKit Go.Deep Go.Joins
open Pk Dk Wn Lk

theorem own : ownKnob Tryd.prog.godebug = none := by kernel_rfl
theorem laidOut : laidOutB Tryd.prog = true := by kernel_rfl

/-- Kind, E, Now. -/
structure Oq where
  kind : Int
  e : Int
  n : Int
instance : Inhabited Oq := ⟨⟨0, 0, 0⟩⟩
def ocel (q : Oq) : List Value := [.int .i64 q.kind, .int .i64 q.e, .int .i64 q.n]
def ocels (l : List Oq) : List Value := l.flatMap ocel
theorem ocel_len (l : List Oq) : ∀ q ∈ l, (ocel q).length = 3 := fun _ _ => rfl
theorem ocels_len (l : List Oq) : (ocels l).length = l.length * 3 := flat_len l (ocel_len l)
def OFit (q : Oq) : Prop := I64 q.kind ∧ I64 q.e ∧ I64 q.n
def OFits (l : List Oq) : Prop := ∀ q ∈ l, OFit q
/-- The cells of an Op. -/
structure OAt (w : World) (g o : Nat) (q : Oq) : Prop where
  kind : w.cell? ⟨g, o, none⟩ = some (.int .i64 q.kind)
  e : w.cell? ⟨g, o + 1, none⟩ = some (.int .i64 q.e)
  n : w.cell? ⟨g, o + 2, none⟩ = some (.int .i64 q.n)
theorem Src.op {w : World} {A : Option Addr} {l : List Oq} {j : Nat} {q : Oq} (h : Src w A (ocels l)) (hq : l[j]? = some q) : ∃ g o, A = some ⟨g, o, none⟩ ∧ g < w.heap.size ∧ OAt w g (o + j * 3) q := by
  have f := fun i (hi : i < 3) => flat_get (f := ocel) l (ocel_len l) j i q hq hi
  have h0 : (ocels l)[j * 3 + 0]? = some (.int .i64 q.kind) := f 0 (by omega)
  have h1 : (ocels l)[j * 3 + 1]? = some (.int .i64 q.e) := f 1 (by omega)
  have h2 : (ocels l)[j * 3 + 2]? = some (.int .i64 q.n) := f 2 (by omega)
  obtain ⟨g, o, e, hl, hc⟩ := h (by intro e; rw [e] at h0; simp at h0)
  exact ⟨g, o, e, hl, hc _ _ h0, by rw [Nat.add_assoc]; exact hc _ _ h1, by rw [Nat.add_assoc]; exact hc _ _ h2⟩

/-- Do, E, Who, Go, Newest. -/
structure Tq where
  do_ : Int
  e : Int
  who : Int
  go_ : Int
  newest : Bool
instance : Inhabited Tq := ⟨⟨0, 0, 0, 0, false⟩⟩
def tcel (q : Tq) : List Value := [.int .i64 q.do_, .int .i64 q.e, .int .u8 q.who, .int .u8 q.go_, .bool q.newest]
def tcels (l : List Tq) : List Value := l.flatMap tcel
theorem tcel_len (l : List Tq) : ∀ q ∈ l, (tcel q).length = 5 := fun _ _ => rfl
theorem tcels_len (l : List Tq) : (tcels l).length = l.length * 5 := flat_len l (tcel_len l)
def U8 (n : Int) : Prop := 0 ≤ n ∧ n < 256
def TFit (q : Tq) : Prop := I64 q.do_ ∧ I64 q.e ∧ U8 q.who ∧ U8 q.go_
def TFits (l : List Tq) : Prop := ∀ q ∈ l, TFit q
/-- The cells of a Tick. -/
structure TAt (w : World) (g o : Nat) (q : Tq) : Prop where
  do_ : w.cell? ⟨g, o, none⟩ = some (.int .i64 q.do_)
  e : w.cell? ⟨g, o + 1, none⟩ = some (.int .i64 q.e)
  who : w.cell? ⟨g, o + 2, none⟩ = some (.int .u8 q.who)
  go_ : w.cell? ⟨g, o + 3, none⟩ = some (.int .u8 q.go_)
  newest : w.cell? ⟨g, o + 4, none⟩ = some (.bool q.newest)
theorem Src.tick {w : World} {A : Option Addr} {l : List Tq} {j : Nat} {q : Tq} (h : Src w A (tcels l)) (hq : l[j]? = some q) : ∃ g o, A = some ⟨g, o, none⟩ ∧ g < w.heap.size ∧ TAt w g (o + j * 5) q := by
  have f := fun i (hi : i < 5) => flat_get (f := tcel) l (tcel_len l) j i q hq hi
  have h0 : (tcels l)[j * 5 + 0]? = some (.int .i64 q.do_) := f 0 (by omega)
  have h1 : (tcels l)[j * 5 + 1]? = some (.int .i64 q.e) := f 1 (by omega)
  have h2 : (tcels l)[j * 5 + 2]? = some (.int .u8 q.who) := f 2 (by omega)
  have h3 : (tcels l)[j * 5 + 3]? = some (.int .u8 q.go_) := f 3 (by omega)
  have h4 : (tcels l)[j * 5 + 4]? = some (.bool q.newest) := f 4 (by omega)
  obtain ⟨g, o, e, hl, hc⟩ := h (by intro e; rw [e] at h0; simp at h0)
  exact ⟨g, o, e, hl, hc _ _ h0, by rw [Nat.add_assoc]; exact hc _ _ h1, by rw [Nat.add_assoc]; exact hc _ _ h2, by rw [Nat.add_assoc]; exact hc _ _ h3, by rw [Nat.add_assoc]; exact hc _ _ h4⟩

theorem trod_struct5 {P : Program} {H : Type} {enc : TypeId × Value → H} {w : World} {base : Nat} {spare : Nat → Bool} {held : Bool} {t : TypeId} {f0 f1 f2 f3 f4 : Field} {fuel : Nat} {cs : List Value} {x : DataW H × List MemPlace} (ht : P.underlying t = some (.struct #[f0, f1, f2, f3, f4])) (h : DataW.trod enc P w base spare held fuel t cs = some x) :
    ∃ y0 y1 y2 y3 y4 n, x = (.agg [y0.1, y1.1, y2.1, y3.1, y4.1], y0.2 ++ (y1.2 ++ (y2.2 ++ (y3.2 ++ y4.2)))) ∧ cs.length = P.cellsOf t ∧ DataW.trod enc P w base spare held n f0.type ((cs.drop f0.offset).take (P.cellsOf f0.type)) = some y0 ∧
      DataW.trod enc P w base spare held n f1.type ((cs.drop f1.offset).take (P.cellsOf f1.type)) = some y1 ∧ DataW.trod enc P w base spare held n f2.type ((cs.drop f2.offset).take (P.cellsOf f2.type)) = some y2 ∧
      DataW.trod enc P w base spare held n f3.type ((cs.drop f3.offset).take (P.cellsOf f3.type)) = some y3 ∧ DataW.trod enc P w base spare held n f4.type ((cs.drop f4.offset).take (P.cellsOf f4.type)) = some y4 := by
  obtain ⟨xs, n, _, rfl, hl, hlen, hf⟩ := DataW.trod_struct ht h
  match xs, hlen with
  | [y0, y1, y2, y3, y4], _ => exact ⟨y0, y1, y2, y3, y4, n, by simp, hl, by simpa using hf 0 f0 rfl, by simpa using hf 1 f1 rfl, by simpa using hf 2 f2 rfl, by simpa using hf 3 f3 rfl, by simpa using hf 4 f4 rfl⟩
section
variable {H : Type} {enc : TypeId × Value → H} {W : World} {d : DataW H} {p : List MemPlace} {a0 : Option Addr} {len cap : Nat}
theorem i64_of {z : Int} (h : (Lit.int .i64 z).wf = true) : I64 z := by
  have := bounds_i64 h
  unfold I64
  omega
theorem u8_of {z : Int} (h : (Lit.int .u8 z).wf = true) : U8 z := by
  have := bounds_u8 h
  unfold U8
  omega
set_option maxRecDepth 100000 in
theorem open_ops16 (h : DataW.Trod enc Tryd.prog W 0 (fun _ => true) true 22 (.slice a0 len cap) d p) :
    ∃ l : List Oq, l.length = len ∧ OFits l ∧ Src W a0 (ocels l) := by
  obtain ⟨fuel, hf⟩ := h
  rcases open_slice Tryd.underlying22 hf with ⟨hcs, _⟩ | ⟨x, l, c, m, n, D, Pl, hcs, _, hl, hm, hmm, _, hc⟩
  · simp [Value.cells] at hcs
    obtain ⟨rfl, rfl, rfl⟩ := hcs
    exact ⟨[], rfl, fun q hq => (by cases hq), fun hl => absurd rfl hl⟩
  · simp [Value.cells] at hcs
    obtain ⟨rfl, rfl, rfl⟩ := hcs
    have hmc : m = cap := by simpa using hmm
    subst hmc
    have ce : Tryd.prog.cellsOf 39 = 3 := by kernel_rfl
    have c1 : Tryd.prog.cellsOf 3 = 1 := by kernel_rfl
    have each : ∀ i, i < m → ∃ q : Oq, (∀ j u, (ocel q)[j]? = some u → W.cell? (x.add (i * 3 + j)) = some u) ∧ OFit q := fun i hi => by
      obtain ⟨cs', g1, g2⟩ := hc i hi
      rw [ce] at g1
      obtain ⟨_, hlen, hcell⟩ := World.cells?_some g1
      obtain ⟨y0, y1, y2, k, _, _, t0, t1, t2⟩ := trod_struct3 Tryd.underlying39 g2
      match cs', hlen with
      | [v0, v1, v2], _ =>
        simp [c1] at t0 t1 t2
        obtain ⟨k0, e0, _, w0⟩ := DataW.trod_int Tryd.underlying3 t0
        obtain ⟨k1, e1, _, w1⟩ := DataW.trod_int Tryd.underlying3 t1
        obtain ⟨k2, e2, _, w2⟩ := DataW.trod_int Tryd.underlying3 t2
        simp at e0 e1 e2
        subst e0 e1 e2
        refine ⟨⟨k0, k1, k2⟩, fun j u hu => ?_, i64_of w0, i64_of w1, i64_of w2⟩
        have hj : j < 3 := by have := (List.getElem?_eq_some_iff.1 hu).1; simpa [ocel] using this
        have e := hcell j hj
        rw [Addr.add_add] at e
        rw [e]
        exact hu
    obtain ⟨q, hq⟩ := choose_lt each
    refine ⟨(List.range len).map q, by simp, fun x hx => by
      obtain ⟨i, hi, rfl⟩ := List.mem_map.1 hx
      have hi' := List.mem_range.1 hi
      exact (hq i (by omega)).2, fun hpos => ?_⟩
    have hlp : 0 < len := by
      rcases Nat.eq_zero_or_pos len with h0 | h0
      · exact absurd (by rw [h0]; rfl) hpos
      · exact h0
    obtain ⟨b, o, sp⟩ := x
    have hsp : sp = none := by
      simpa [Addr.add] using World.cell?_spot ((hq 0 (by omega)).1 0 _ rfl)
    subst hsp
    have hb : b < W.heap.size := by
      have := (hq 0 (by omega)).1 0 _ rfl
      rw [Addr.add_lit] at this
      exact World.block_lt_of_cell? W ⟨b, _, none⟩ this
    refine ⟨b, o, rfl, hb, fun j u hu => ?_⟩
    have hjl : j < len * 3 := by
      have := (List.getElem?_eq_some_iff.1 hu).1
      rw [ocels_len, List.length_map, List.length_range] at this
      exact this
    obtain ⟨i, r, rfl, hr⟩ : ∃ i r, j = i * 3 + r ∧ r < 3 := ⟨j / 3, j % 3, by omega, by omega⟩
    have hg : (ocels ((List.range len).map q))[i * 3 + r]? = (ocel (q i))[r]? := flat_get _ (ocel_len _) i r (q i) (by simp [show i < len by omega]) hr
    rw [hg] at hu
    have := (hq i (by omega)).1 r u hu
    rwa [Addr.add_lit] at this
set_option maxRecDepth 100000 in
theorem open_ticks16 (h : DataW.Trod enc Tryd.prog W 0 (fun _ => true) true 53 (.slice a0 len cap) d p) :
    ∃ l : List Tq, l.length = len ∧ TFits l ∧ Src W a0 (tcels l) := by
  obtain ⟨fuel, hf⟩ := h
  rcases open_slice Tryd.underlying53 hf with ⟨hcs, _⟩ | ⟨x, l, c, m, n, D, Pl, hcs, _, hl, hm, hmm, _, hc⟩
  · simp [Value.cells] at hcs
    obtain ⟨rfl, rfl, rfl⟩ := hcs
    exact ⟨[], rfl, fun q hq => (by cases hq), fun hl => absurd rfl hl⟩
  · simp [Value.cells] at hcs
    obtain ⟨rfl, rfl, rfl⟩ := hcs
    have hmc : m = cap := by simpa using hmm
    subst hmc
    have ce : Tryd.prog.cellsOf 56 = 5 := by kernel_rfl
    have c1 : Tryd.prog.cellsOf 3 = 1 := by kernel_rfl
    have c8 : Tryd.prog.cellsOf 5 = 1 := by kernel_rfl
    have cb : Tryd.prog.cellsOf 4 = 1 := by kernel_rfl
    have each : ∀ i, i < m → ∃ q   : Tq, (∀ j u, (tcel q)[j]? = some u → W.cell? (x.add (i * 5 + j)) = some u) ∧ TFit q := fun i hi => by
      obtain ⟨cs', g1, g2⟩ := hc i hi
      rw [ce] at g1
      obtain ⟨_, hlen, hcell⟩ := World.cells?_some g1
      obtain ⟨y0, y1, y2, y3, y4, k, _, _, t0, t1, t2, t3, t4⟩ := trod_struct5 Tryd.underlying56 g2
      match cs', hlen with
      | [v0, v1, v2, v3, v4], _ =>
        simp [c1, c8, cb] at t0 t1 t2 t3 t4
        obtain ⟨k0, e0, _, w0⟩ := DataW.trod_int Tryd.underlying3 t0
        obtain ⟨k1, e1, _, w1⟩ := DataW.trod_int Tryd.underlying3 t1
        obtain ⟨k2, e2, _, w2⟩ := DataW.trod_int Tryd.underlying5 t2
        obtain ⟨k3, e3, _, w3⟩ := DataW.trod_int Tryd.underlying5 t3
        obtain ⟨k4, e4, _⟩ := DataW.trod_bool Tryd.underlying4 t4
        simp at e0 e1 e2 e3 e4
        subst e0 e1 e2 e3 e4
        refine ⟨⟨k0, k1, k2, k3, k4⟩, fun j u hu => ?_, i64_of w0, i64_of w1, u8_of w2, u8_of w3⟩
        have hj : j < 5 := by have := (List.getElem?_eq_some_iff.1 hu).1; simpa [tcel] using this
        have e := hcell j hj
        rw [Addr.add_add] at e
        rw [e]
        exact hu
    obtain ⟨q, hq⟩ := choose_lt each
    refine ⟨(List.range len).map q, by simp, fun x hx => by
      obtain ⟨i, hi, rfl⟩ := List.mem_map.1 hx
      have hi' := List.mem_range.1 hi
      exact (hq i (by omega)).2, fun hpos => ?_⟩
    have hlp : 0 < len := by
      rcases Nat.eq_zero_or_pos len with h0 | h0
      · exact absurd (by rw [h0]; rfl) hpos
      · exact h0
    obtain ⟨b, o, sp⟩ := x
    have hsp : sp = none := by
      simpa [Addr.add] using World.cell?_spot ((hq 0 (by omega)).1 0 _ rfl)
    subst hsp
    have hb : b < W.heap.size := by
      have := (hq 0 (by omega)).1 0 _ rfl
      rw [Addr.add_lit] at this
      exact World.block_lt_of_cell? W ⟨b, _, none⟩ this
    refine ⟨b, o, rfl, hb, fun j u hu => ?_⟩
    have hjl : j < len * 5 := by
      have := (List.getElem?_eq_some_iff.1 hu).1
      rw [tcels_len, List.length_map, List.length_range] at this
      exact this
    obtain ⟨i, r, rfl, hr⟩ : ∃ i r, j = i * 5 + r ∧ r < 5 := ⟨j / 5, j % 5, by omega, by omega⟩
    have hg : (tcels ((List.range len).map q))[i * 5 + r]? = (tcel (q i))[r]? := flat_get _ (tcel_len _) i r (q i) (by simp [show i < len by omega]) hr
    rw [hg] at hu
    have := (hq i (by omega)).1 r u hu
    rwa [Addr.add_lit] at this
end

end Go.Proofs.YtmbhnhfnimijcaaDoor.Le
