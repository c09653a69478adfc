/-
  The statements' arguments: a slice of Ops, a call, as numbers and texts; what the statements' own few returns. Nothing is changed. Conditions: in each.
-/
import Derived.Test.YtjholhmgainbfaaDoorRows
import Derived.WalkKit
import Derived.ProofKit
import Derived.OpenShut
import Derived.ShutString
import Derived.ChangeOld
import Derived.Below
import Derived.Deep.SlicePairs
import Derived.Lib.SmallJoins
import Derived.Test.YtjholhmgainbfaaDoorGaWake
namespace Go.Proofs.YtjholhmgainbfaaDoor.Ga
open Go.ChangeShapes Go.WideShapes Go.ChangeAt Go.RowKit Go.Deep Go.Joins
open Pk Dk

def I64 (n : Int) : Prop := -9223372036854775808 ≤ n ∧ n ≤ 9223372036854775807
/-- Kind, Round, Ticks, C. -/
structure Oq where
  kind : Int
  r : Int
  t : Int
  c : Cl
instance : Inhabited Oq := ⟨⟨0, 0, 0, nocl⟩⟩
def CFit (c : Cl) : Prop := I64 c.id ∧ I64 c.b ∧ c.d.size ≤ maxLen
def OFit (q : Oq) : Prop := I64 q.kind ∧ I64 q.r ∧ I64 q.t ∧ CFit q.c
def OFits (l : List Oq) : Prop := ∀ q ∈ l, OFit q
def CFits (l : List Cl) : Prop := ∀ q ∈ l, CFit q
/-- Cells at an address. -/
def CAt (W : World) (b o : Nat) (c : Cl) : Prop := W.cell? ⟨b, o, none⟩ = some (.int .i64 c.id) ∧ W.cell? ⟨b, o + 1, none⟩ = some (.int .i64 c.b) ∧ W.cell? ⟨b, o + 2, none⟩ = some (.string c.d)
def OAt (W : World) (b o : Nat) (q : Oq) : Prop := W.cell? ⟨b, o, none⟩ = some (.int .i64 q.kind) ∧ W.cell? ⟨b, o + 1, none⟩ = some (.int .i64 q.r) ∧ W.cell? ⟨b, o + 2, none⟩ = some (.int .i64 q.t) ∧ W.cell? ⟨b, o + 3, none⟩ = some (.int .i64 q.c.id) ∧ W.cell? ⟨b, o + 4, none⟩ = some (.int .i64 q.c.b) ∧ W.cell? ⟨b, o + 5, none⟩ = some (.string q.c.d)
def Ops (W : World) (B : Nat) (A : Option Addr) (l : List Oq) : Prop := l ≠ [] → ∃ b o, A = some ⟨b, o, none⟩ ∧ b < B ∧ ∀ j q, l[j]? = some q → OAt W b (o + j * 6) q
def Cas (W : World) (B : Nat) (A : Option Addr) (l : List Cl) : Prop := l ≠ [] → ∃ b o, A = some ⟨b, o, none⟩ ∧ b < B ∧ ∀ j q, l[j]? = some q → CAt W b (o + j * 3) q
section
variable {W w' : World} {B b o : Nat} {A : Option Addr}
theorem CAt.below {q : Cl} (h : CAt W b o q) (hB : b < B) (hb : Below B W w') : CAt w' b o q := ⟨(hb.cell (p := ⟨b, o, none⟩) hB).trans h.1, (hb.cell (p := ⟨b, o + 1, none⟩) hB).trans h.2.1, (hb.cell (p := ⟨b, o + 2, none⟩) hB).trans h.2.2⟩
theorem OAt.below {q : Oq} (h : OAt W b o q) (hB : b < B) (hb : Below B W w') : OAt w' b o q := ⟨(hb.cell (p := ⟨b, o, none⟩) hB).trans h.1, (hb.cell (p := ⟨b, o + 1, none⟩) hB).trans h.2.1, (hb.cell (p := ⟨b, o + 2, none⟩) hB).trans h.2.2.1, (hb.cell (p := ⟨b, o + 3, none⟩) hB).trans h.2.2.2.1, (hb.cell (p := ⟨b, o + 4, none⟩) hB).trans h.2.2.2.2.1, (hb.cell (p := ⟨b, o + 5, none⟩) hB).trans h.2.2.2.2.2⟩
theorem Ops.below {l : List Oq} (h : Ops W B A l) (hb : Below B W w') : Ops w' B A l := fun hl => by
  obtain ⟨b, o, e, hB, hc⟩ := h hl
  exact ⟨b, o, e, hB, fun i q hi => (hc i q hi).below hB hb⟩
theorem Cas.below {l : List Cl} (h : Cas W B A l) (hb : Below B W w') : Cas w' B A l := fun hl => by
  obtain ⟨b, o, e, hB, hc⟩ := h hl
  exact ⟨b, o, e, hB, fun i q hi => (hc i q hi).below hB hb⟩
theorem Ops.more1 {B' : Nat} {l : List Oq} (h : Ops W B A l) (hB : B ≤ B') : Ops W B' A l := fun hl => by
  obtain ⟨b, o, e, hb, hc⟩ := h hl
  exact ⟨b, o, e, by omega, hc⟩
theorem Cas.more1 {B' : Nat} {l : List Cl} (h : Cas W B A l) (hB : B ≤ B') : Cas W B' A l := fun hl => by
  obtain ⟨b, o, e, hb, hc⟩ := h hl
  exact ⟨b, o, e, by omega, hc⟩
theorem Ops.at_ {l : List Oq} (h : Ops W B A l) {k : Nat} {q : Oq} (hk : l[k]? = some q) : ∃ b o, A = some ⟨b, o, none⟩ ∧ OAt W b (o + k * 6) q := by
  obtain ⟨b, o, e, _, hc⟩ := h (by rintro rfl; simp at hk)
  exact ⟨b, o, e, hc k q hk⟩
theorem Cas.at_ {l : List Cl} (h : Cas W B A l) {k : Nat} {q : Cl} (hk : l[k]? = some q) : ∃ b o, A = some ⟨b, o, none⟩ ∧ CAt W b (o + k * 3) q := by
  obtain ⟨b, o, e, _, hc⟩ := h (by rintro rfl; simp at hk)
  exact ⟨b, o, e, hc k q hk⟩
end

section
variable {H : Type} {enc : TypeId × Value → H} {W : World} {d : DataW H} {p : List MemPlace} {a0 : Option Addr} {len cap : Nat}
theorem call_parts {n : Nat} {v0 v1 v2 : Value} {y0 y1 y2 : DataW H × List MemPlace} (h0 : DataW.trod enc Tryd.prog W 0 (fun _ => true) true n 3 [v0] = some y0) (h1 : DataW.trod enc Tryd.prog W 0 (fun _ => true) true n 3 [v1] = some y1)
    (h2 : DataW.trod enc Tryd.prog W 0 (fun _ => true) true n 9 [v2] = some y2) :
    ∃ q : Cl, v0 = .int .i64 q.id ∧ v1 = .int .i64 q.b ∧ v2 = .string q.d ∧ CFit q := by
  obtain ⟨k0, e0, _, w0⟩ := DataW.trod_int Tryd.underlying3 h0
  obtain ⟨k1, e1, _, w1⟩ := DataW.trod_int Tryd.underlying3 h1
  obtain ⟨s2, e2, _, w2⟩ := DataW.trod_string Tryd.underlying9 h2
  simp at e0 e1 e2
  exact ⟨⟨k0, k1, s2⟩, e0, e1, e2, bounds_i64 w0, bounds_i64 w1, w2⟩

set_option maxRecDepth 100000 in
theorem open_call {r : Reach} {b0 : Nat} {v : Value} (hv : Value.okWide Tryd.prog W r b0 36 v) (h : DataW.Trod enc Tryd.prog W 0 (fun _ => true) true 36 v d p) :
    ∃ q : Cl, v = cl3 q ∧ CFit q := by
  obtain ⟨v0, v1, v2, y0, y1, y2, n, rfl, _, _, h0, h1, h2⟩ := open_agg3 Tryd.underlying36 (by kernel_rfl) (by kernel_rfl) hv h
  obtain ⟨q, rfl, rfl, rfl, hf⟩ := call_parts h0 h1 h2
  exact ⟨q, rfl, hf⟩

theorem call_trod {fuel : Nat} {y : DataW H × List MemPlace} {v0 v1 v2 : Value} (h : DataW.trod enc Tryd.prog W 0 (fun _ => true) true fuel 36 [v0, v1, v2] = some y) :
    ∃ q : Cl, v0 = .int .i64 q.id ∧ v1 = .int .i64 q.b ∧ v2 = .string q.d ∧ CFit q := by
  obtain ⟨y0, y1, y2, k, _, _, t0, t1, t2⟩ := trod_struct3 Tryd.underlying36 h
  have c1 : Tryd.prog.cellsOf 3 = 1 := by kernel_rfl
  have c3 : Tryd.prog.cellsOf 9 = 1 := by kernel_rfl
  simp [c1, c3] at t0 t1 t2
  exact call_parts t0 t1 t2

set_option maxRecDepth 100000 in
theorem open_calls (h : DataW.Trod enc Tryd.prog W 0 (fun _ => true) true 28 (.slice a0 len cap) d p) :
    ∃ l : List Cl, l.length = len ∧ CFits l ∧ Cas W W.heap.size a0 l := by
  obtain ⟨fuel, hf⟩ := h
  rcases open_slice Tryd.underlying28 hf with ⟨hcs, _⟩ | ⟨x, l, c, m, n, D, Pl, hcs, _, hl, hm, hmm, _, hc⟩
  · simp [Value.cells] at hcs
    obtain ⟨rfl, rfl, rfl⟩ := hcs
    exact ⟨[], rfl, fun q hq => (by cases hq), fun hl => absurd rfl hl⟩
  · simp [Value.cells] at hcs
    obtain ⟨rfl, rfl, rfl⟩ := hcs
    have hmc : m = cap := by simpa using hmm
    subst hmc
    have ce : Tryd.prog.cellsOf 36 = 3 := by kernel_rfl
    have each : ∀ i, i < m → ∃ q : Cl, (∀ j u, ([.int .i64 q.id, .int .i64 q.b, .string q.d] : List Value)[j]? = some u → W.cell? (x.add (i * 3 + j)) = some u) ∧ CFit q := fun i hi => by
      obtain ⟨cs', g1, g2⟩ := hc i hi
      rw [ce] at g1
      obtain ⟨_, hlen, hcell⟩ := World.cells?_some g1
      match cs', hlen with
      | [v0, v1, v2], _ =>
        obtain ⟨q, rfl, rfl, rfl, hfq⟩ := call_trod g2
        refine ⟨q, fun j u hu => ?_, hfq⟩
        have hj : j < 3 := by have := (List.getElem?_eq_some_iff.1 hu).1; simpa using this
        have e := hcell j hj
        rw [Addr.add_add] at e
        rw [e]
        exact hu
    obtain ⟨q, hq⟩ := choose_lt each
    refine ⟨(List.range len).map q, by simp, fun x hx => ?_, fun hpos => ?_⟩
    · obtain ⟨i, hi, rfl⟩ := List.mem_map.1 hx
      have hi' := List.mem_range.1 hi
      exact (hq i (by omega)).2
    · have hlp : 0 < len := by
        rcases Nat.eq_zero_or_pos len with h0 | h0
        · exact absurd (by rw [h0]; rfl) hpos
        · exact h0
      obtain ⟨b, o, sp⟩ := x
      have hsp : sp = none := by
        simpa [Addr.add] using World.cell?_spot ((hq 0 (by omega)).1 0 _ rfl)
      subst hsp
      have hb : b < W.heap.size := by
        have := (hq 0 (by omega)).1 0 _ rfl
        rw [Addr.add_lit] at this
        exact World.block_lt_of_cell? W ⟨b, _, none⟩ this
      refine ⟨b, o, rfl, hb, fun i x hi => ?_⟩
      have hil : i < len := by
        have := (List.getElem?_eq_some_iff.1 hi).1
        simpa using this
      have hx : q i = x := by simpa [hil] using hi
      subst hx
      have f := fun j u (hu : _ = some u) => by
        have := (hq i (by omega)).1 j u hu
        rwa [Addr.add_lit, ← Nat.add_assoc] at this
      exact ⟨f 0 _ rfl, f 1 _ rfl, f 2 _ rfl⟩

set_option maxRecDepth 100000 in
theorem open_ops8 (h : DataW.Trod enc Tryd.prog W 0 (fun _ => true) true 22 (.slice a0 len cap) d p) :
    ∃ l : List Oq, l.length = len ∧ OFits l ∧ Ops W W.heap.size a0 l := by
  obtain ⟨fuel, hf⟩ := h
  rcases open_slice Tryd.underlying22 hf with ⟨hcs, _⟩ | ⟨x, l, c, m, n, D, Pl, hcs, _, hl, hm, hmm, _, hc⟩
  · simp [Value.cells] at hcs
    obtain ⟨rfl, rfl, rfl⟩ := hcs
    exact ⟨[], rfl, fun q hq => (by cases hq), fun hl => absurd rfl hl⟩
  · simp [Value.cells] at hcs
    obtain ⟨rfl, rfl, rfl⟩ := hcs
    have hmc : m = cap := by simpa using hmm
    subst hmc
    have ce : Tryd.prog.cellsOf 38 = 6 := by kernel_rfl
    have each : ∀ i, i < m → ∃ q : Oq, (∀ j u, ([.int .i64 q.kind, .int .i64 q.r, .int .i64 q.t, .int .i64 q.c.id, .int .i64 q.c.b, .string q.c.d] : List Value)[j]? = some u → W.cell? (x.add (i * 6 + j)) = some u) ∧ OFit q := fun i hi => by
      obtain ⟨cs', g1, g2⟩ := hc i hi
      rw [ce] at g1
      obtain ⟨_, hlen, hcell⟩ := World.cells?_some g1
      obtain ⟨y0, y1, y2, y3, k, _, _, t0, t1, t2, t3⟩ := trod_struct4 Tryd.underlying38 g2
      match cs', hlen with
      | [v0, v1, v2, v3, v4, v5], _ =>
        have c1 : Tryd.prog.cellsOf 3 = 1 := by kernel_rfl
        have c3 : Tryd.prog.cellsOf 36 = 3 := by kernel_rfl
        simp [c1, c3] at t0 t1 t2 t3
        obtain ⟨c, rfl, rfl, rfl, hfc⟩ := call_trod t3
        obtain ⟨k0, e0, _, w0⟩ := DataW.trod_int Tryd.underlying3 t0
        obtain ⟨k1, e1, _, w1⟩ := DataW.trod_int Tryd.underlying3 t1
        obtain ⟨k2, e2, _, w2⟩ := DataW.trod_int Tryd.underlying3 t2
        simp at e0 e1 e2
        subst e0 e1 e2
        refine ⟨⟨k0, k1, k2, c⟩, fun j u hu => ?_, bounds_i64 w0, bounds_i64 w1, bounds_i64 w2, hfc⟩
        have hj : j < 6 := by have := (List.getElem?_eq_some_iff.1 hu).1; simpa using this
        have e := hcell j hj
        rw [Addr.add_add] at e
        rw [e]
        exact hu
    obtain ⟨q, hq⟩ := choose_lt each
    refine ⟨(List.range len).map q, by simp, fun x hx => ?_, fun hpos => ?_⟩
    · obtain ⟨i, hi, rfl⟩ := List.mem_map.1 hx
      have hi' := List.mem_range.1 hi
      exact (hq i (by omega)).2
    · have hlp : 0 < len := by
        rcases Nat.eq_zero_or_pos len with h0 | h0
        · exact absurd (by rw [h0]; rfl) hpos
        · exact h0
      obtain ⟨b, o, sp⟩ := x
      have hsp : sp = none := by
        simpa [Addr.add] using World.cell?_spot ((hq 0 (by omega)).1 0 _ rfl)
      subst hsp
      have hb : b < W.heap.size := by
        have := (hq 0 (by omega)).1 0 _ rfl
        rw [Addr.add_lit] at this
        exact World.block_lt_of_cell? W ⟨b, _, none⟩ this
      refine ⟨b, o, rfl, hb, fun i x hi => ?_⟩
      have hil : i < len := by
        have := (List.getElem?_eq_some_iff.1 hi).1
        simpa using this
      have hx : q i = x := by simpa [hil] using hi
      subst hx
      have f := fun j u (hu : _ = some u) => by
        have := (hq i (by omega)).1 j u hu
        rwa [Addr.add_lit, ← Nat.add_assoc] at this
      exact ⟨f 0 _ rfl, f 1 _ rfl, f 2 _ rfl, f 3 _ rfl, f 4 _ rfl, f 5 _ rfl⟩
end

def Shorts (l : List Oq) : Prop := ∀ q ∈ l, q.c.d.size ≤ 200
/-- Ops of a size that is looked at. -/
def Few (l : List Oq) : Prop := l.length ≤ 300 ∧ Shorts l
/-- What few returns. -/
def FewR (p : Prop) (r : Ending) : Prop := ∃ b : Bool, r = .returned (.bool b) ∧ (b = true ↔ p)

set_option maxRecDepth 100000 in
theorem few_long (A : Option Addr) (n c : Nat) (w : World) (hn : 300 < n) :
    Calls Tryd.prog 7 #[.slice A n c] w fun r w' => r = .returned (.bool false) ∧ w = w' := by
  go_enter Tryd.func7, Tryd.ntmps7
  go_wp2
  go_ret
  exact ⟨rfl, rfl⟩
theorem take_snoc8 {α : Type} (l : List α) (k : Nat) (q : α) (h : l[k]? = some q) : l.take (k + 1) = l.take k ++ [q] := by rw [List.take_add_one, h]; rfl

set_option maxRecDepth 100000 in
set_option maxHeartbeats 1000000 in
theorem few_short (A : Option Addr) (n c : Nat) (l : List Oq) (w : World) (hl : l.length = n) (hn : n ≤ 300) (hp : Ops w w.heap.size A l) (hf : OFits l) :
    Calls Tryd.prog 7 #[.slice A n c] w fun r w' => FewR (Shorts l) r ∧ w = w' := by
  have Hl := hide hl
  have Hp := hide hp
  have Hf := hide hf
  clear hl hp hf
  go_enter Tryd.func7, Tryd.ntmps7
  go_wp2_with fail
  go_loop [9] (fun i => ∃ k : Nat, k ≤ n ∧ i = .int .i64 k ∧ Hid (∀ q ∈ l.take k, q.c.d.size ≤ 200)) (fun i => n - (intOf i).toNat)
  case atStart => exact ⟨0, Nat.zero_le _, rfl, by simp [Hid]⟩
  case round =>
    obtain ⟨k, hk, rfl, hq⟩ := hrel
    rcases Nat.lt_or_ge k n with hlt | hge
    · obtain ⟨q, hqk⟩ : ∃ q, l[k]? = some q := ⟨_, List.getElem?_eq_getElem (by rw [Hl.out]; exact hlt)⟩
      obtain ⟨b, o, rfl, hat⟩ := Hp.out.at_ hqk
      have hc0 : w.cell? ⟨b, o + k * 6 + 5, none⟩ = some (.string q.c.d) := hat.2.2.2.2.2
      have hmem : q ∈ l := List.mem_of_getElem? hqk
      have hqm := (Hf.out q hmem).2.2.2.2.2
      obtain ⟨qd, hqd⟩ : ∃ qd, q.c.d = qd := ⟨_, rfl⟩
      have hqm' : qd.size ≤ maxLen := by rw [← hqd]; exact hqm
      rw [hqd] at hc0
      have Hqd := hide hqd
      have Hqk := hide hqk
      have Hmem := hide hmem
      clear hqk hmem hat hqm hqd
      by_cases hsz : ¬ qd.size ≤ 200
      · go_wp2
        go_ret
        exact ⟨⟨false, rfl, by simp only [Bool.false_eq_true, false_iff]; exact fun h => hsz (by rw [← Hqd.out]; exact h q Hmem.out)⟩, rfl⟩
      · go_wp2
        go_round
        case rel =>
          refine ⟨k + 1, by omega, by go_num, ?_⟩
          show ∀ x ∈ l.take (k + 1), x.c.d.size ≤ 200
          rw [take_snoc8 l k q Hqk.out]
          intro x hx
          rcases List.mem_append.1 hx with hx | hx
          · exact hq.out x hx
          · rw [List.mem_singleton.1 hx, Hqd.out]; omega
        case measure => simp [intOf]; omega
    · have hq' := hq.out
      rw [List.take_of_length_le (by rw [Hl.out]; omega)] at hq'
      have HQ := hide hq'
      clear hq' hq
      go_wp2
      go_ret
      exact ⟨⟨true, rfl, by simp only [true_iff]; exact HQ.out⟩, rfl⟩

theorem few_any (A : Option Addr) (n c : Nat) (l : List Oq) (w : World) (hl : l.length = n) (hp : Ops w w.heap.size A l) (hf : OFits l) :
    Calls Tryd.prog 7 #[.slice A n c] w fun r w' => FewR (Few l) r ∧ w = w' := by
  rcases Nat.lt_or_ge 300 n with h | h
  · refine (few_long A n c w h).mono ?_
    rintro r w' ⟨rfl, rfl⟩
    exact ⟨⟨false, rfl, by simp only [Bool.false_eq_true, false_iff]; intro h2; have := h2.1; omega⟩, rfl⟩
  · refine (few_short A n c l w hl h hp hf).mono ?_
    rintro r w' ⟨⟨b, rfl, hb⟩, rfl⟩
    exact ⟨⟨b, rfl, hb.trans ⟨fun h2 => ⟨by omega, h2⟩, fun h2 => h2.2⟩⟩, rfl⟩

end Go.Proofs.YtjholhmgainbfaaDoor.Ga
