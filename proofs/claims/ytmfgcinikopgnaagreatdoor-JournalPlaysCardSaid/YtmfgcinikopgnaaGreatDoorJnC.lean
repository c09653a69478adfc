/-
  A journal that a statement made, with what is always so of its sectors: what each call leaves; the statements' own played. Condition: the table of half bytes holds what the program's own text lays.
-/
import Derived.Deep.SlicePairs
import Derived.Lib.SmallJoins
import Derived.Test.YtmfgcinikopgnaaGreatDoorRcLift
import Derived.Test.YtmfgcinikopgnaaGreatDoorJnB

/-
  The statements' arguments: a slice of Ops, a slice of records, as numbers and texts; what the statements' own few returns. Nothing is changed. Conditions: in each.
-/
namespace Go.Proofs.YtmfgcinikopgnaaGreatDoor.Jn
open Go.ChangeShapes Go.WideShapes Go.ChangeAt Go.RowKit Go.Deep Go.Joins
open Pk Sm Fa Rc Dk

/-- Kind, N, the record's five, Keep. -/
structure Oq where
  kind : Int
  n : Int
  s : Int
  k : Int
  b : Int
  d : ByteArray
  m : Int
  keep : Nat
structure Rq where
  s : Int
  k : Int
  b : Int
  d : ByteArray
  m : Int
instance : Inhabited Rq := ⟨⟨0, 0, 0, ⟨#[]⟩, 0⟩⟩
instance : Inhabited Oq := ⟨⟨0, 0, 0, 0, 0, ⟨#[]⟩, 0, 0⟩⟩
def RFit (q : Rq) : Prop := Int64 q.s ∧ Int64 q.k ∧ Int64 q.b ∧ q.d.size ≤ maxLen ∧ Int64 q.m
def OFit (q : Oq) : Prop := Int64 q.kind ∧ Int64 q.n ∧ RFit ⟨q.s, q.k, q.b, q.d, q.m⟩ ∧ q.keep < 18446744073709551616
def OFits (l : List Oq) : Prop := ∀ q ∈ l, OFit q
def RFits (l : List Rq) : Prop := ∀ q ∈ l, RFit q
/-- Cells of one record at an address. -/
def RAt (W : World) (b o : Nat) (q : Rq) : Prop := W.cell? ⟨b, o, none⟩ = some (.int .i64 q.s) ∧ W.cell? ⟨b, o + 1, none⟩ = some (.int .i64 q.k) ∧ W.cell? ⟨b, o + 2, none⟩ = some (.int .i64 q.b) ∧ W.cell? ⟨b, o + 3, none⟩ = some (.string q.d) ∧ W.cell? ⟨b, o + 4, none⟩ = some (.int .i64 q.m)
def OAt (W : World) (b o : Nat) (q : Oq) : Prop := W.cell? ⟨b, o, none⟩ = some (.int .i64 q.kind) ∧ W.cell? ⟨b, o + 1, none⟩ = some (.int .i64 q.n) ∧ RAt W b (o + 2) ⟨q.s, q.k, q.b, q.d, q.m⟩ ∧ W.cell? ⟨b, o + 7, none⟩ = some (.int .u64 q.keep)
def Ops (W : World) (B : Nat) (A : Option Addr) (l : List Oq) : Prop := l ≠ [] → ∃ b o, A = some ⟨b, o, none⟩ ∧ b < B ∧ ∀ j q, l[j]? = some q → OAt W b (o + j * 8) q
def Recs (W : World) (B : Nat) (A : Option Addr) (l : List Rq) : Prop := l ≠ [] → ∃ b o, A = some ⟨b, o, none⟩ ∧ b < B ∧ ∀ j q, l[j]? = some q → RAt W b (o + j * 5) q
section
variable {W w' : World} {B b o : Nat} {A : Option Addr}
theorem RAt.below {q : Rq} (h : RAt W b o q) (hB : b < B) (hb : Below B W w') : RAt w' b o q := ⟨(hb.cell (p := ⟨b, o, none⟩) hB).trans h.1, (hb.cell (p := ⟨b, o + 1, none⟩) hB).trans h.2.1, (hb.cell (p := ⟨b, o + 2, none⟩) hB).trans h.2.2.1, (hb.cell (p := ⟨b, o + 3, none⟩) hB).trans h.2.2.2.1, (hb.cell (p := ⟨b, o + 4, none⟩) hB).trans h.2.2.2.2⟩
theorem OAt.below {q : Oq} (h : OAt W b o q) (hB : b < B) (hb : Below B W w') : OAt w' b o q := ⟨(hb.cell (p := ⟨b, o, none⟩) hB).trans h.1, (hb.cell (p := ⟨b, o + 1, none⟩) hB).trans h.2.1, h.2.2.1.below hB hb, (hb.cell (p := ⟨b, o + 7, none⟩) hB).trans h.2.2.2⟩
theorem Ops.below {l : List Oq} (h : Ops W B A l) (hb : Below B W w') : Ops w' B A l := fun hl => by
  obtain ⟨b, o, e, hB, hc⟩ := h hl
  exact ⟨b, o, e, hB, fun i q hi => (hc i q hi).below hB hb⟩
theorem Recs.below {l : List Rq} (h : Recs W B A l) (hb : Below B W w') : Recs w' B A l := fun hl => by
  obtain ⟨b, o, e, hB, hc⟩ := h hl
  exact ⟨b, o, e, hB, fun i q hi => (hc i q hi).below hB hb⟩
theorem Ops.more1 {B' : Nat} {l : List Oq} (h : Ops W B A l) (hB : B ≤ B') : Ops W B' A l := fun hl => by
  obtain ⟨b, o, e, hb, hc⟩ := h hl
  exact ⟨b, o, e, by omega, hc⟩
theorem Recs.more1 {B' : Nat} {l : List Rq} (h : Recs W B A l) (hB : B ≤ B') : Recs W B' A l := fun hl => by
  obtain ⟨b, o, e, hb, hc⟩ := h hl
  exact ⟨b, o, e, by omega, hc⟩
theorem Ops.at_ {l : List Oq} (h : Ops W B A l) {k : Nat} {q : Oq} (hk : l[k]? = some q) : ∃ b o, A = some ⟨b, o, none⟩ ∧ OAt W b (o + k * 8) q := by
  obtain ⟨b, o, e, _, hc⟩ := h (by rintro rfl; simp at hk)
  exact ⟨b, o, e, hc k q hk⟩
theorem Recs.at_ {l : List Rq} (h : Recs W B A l) {k : Nat} {q : Rq} (hk : l[k]? = some q) : ∃ b o, A = some ⟨b, o, none⟩ ∧ RAt W b (o + k * 5) q := by
  obtain ⟨b, o, e, _, hc⟩ := h (by rintro rfl; simp at hk)
  exact ⟨b, o, e, hc k q hk⟩
end

section
variable {H : Type} {enc : TypeId × Value → H} {W : World} {d : DataW H} {p : List MemPlace} {a0 : Option Addr} {len cap : Nat}
set_option maxRecDepth 100000 in
theorem rec_parts {fuel : Nat} {y : DataW H × List MemPlace} {v0 v1 v2 v3 v4 : Value} (hf : DataW.trod enc Tryz.prog W 0 (fun _ => true) true fuel 42 [v0, v1, v2, v3, v4] = some y) :
    ∃ q : Rq, v0 = .int .i64 q.s ∧ v1 = .int .i64 q.k ∧ v2 = .int .i64 q.b ∧ v3 = .string q.d ∧ v4 = .int .i64 q.m ∧ RFit q := by
  obtain ⟨xs, n, _, _, _, hlen, hfl⟩ := DataW.trod_struct rec_struct hf
  have hfs : (Tryz.prog.fieldsOf 42).toList.map (fun f => f.type) = [3, 3, 3, 9, 3] := by kernel_rfl
  have h5 : (Tryz.prog.fieldsOf 42).size = 5 := by kernel_rfl
  have each : ∀ (i : Nat) (t : TypeId) (u : Value), ([3, 3, 3, 9, 3] : List TypeId)[i]? = some t → ([v0, v1, v2, v3, v4] : List Value)[i]? = some u → ∃ y, DataW.trod enc Tryz.prog W 0 (fun _ => true) true n t [u] = some y := by
    intro i t u ht hu
    have hi : i < 5 := by
      have := (List.getElem?_eq_some_iff.1 hu).1
      simpa using this
    obtain ⟨f, hff⟩ : ∃ f, (Tryz.prog.fieldsOf 42)[i]? = some f := ⟨_, Array.getElem?_eq_getElem (by omega)⟩
    obtain ⟨ho, hc⟩ := hone_of rec_one i f hff
    have ht' : f.type = t := by
      have e : ((Tryz.prog.fieldsOf 42).toList.map (fun f => f.type))[i]? = some f.type := by
        rw [List.getElem?_map, Array.getElem?_toList, hff]; rfl
      rw [hfs, ht] at e
      exact (Option.some.inj e).symm
    have hx := hfl i f hff
    rw [ho, hc, ht'] at hx
    obtain ⟨y, hy⟩ : ∃ y, xs[i]? = some y := ⟨_, List.getElem?_eq_getElem (by omega)⟩
    rw [hy] at hx
    refine ⟨y, ?_⟩
    have e : (([v0, v1, v2, v3, v4] : List Value).drop i).take 1 = [u] := by
      obtain ⟨hlt, he⟩ := List.getElem?_eq_some_iff.1 hu
      rw [List.drop_eq_getElem_cons hlt, he]
      rfl
    rw [← e]
    exact hx
  obtain ⟨y0, h0⟩ := each 0 _ _ rfl rfl
  obtain ⟨y1, h1⟩ := each 1 _ _ rfl rfl
  obtain ⟨y2, h2⟩ := each 2 _ _ rfl rfl
  obtain ⟨y3, h3⟩ := each 3 _ _ rfl rfl
  obtain ⟨y4, h4⟩ := each 4 _ _ rfl rfl
  obtain ⟨k0, e0, _, w0⟩ := DataW.trod_int Tryz.underlying3 h0
  obtain ⟨k1, e1, _, w1⟩ := DataW.trod_int Tryz.underlying3 h1
  obtain ⟨k2, e2, _, w2⟩ := DataW.trod_int Tryz.underlying3 h2
  obtain ⟨s3, e3, _, w3⟩ := DataW.trod_string Tryz.underlying9 h3
  obtain ⟨k4, e4, _, w4⟩ := DataW.trod_int Tryz.underlying3 h4
  simp at e0 e1 e2 e3 e4
  subst e0 e1 e2 e3 e4
  exact ⟨⟨k0, k1, k2, s3, k4⟩, rfl, rfl, rfl, rfl, rfl, bounds_i64 w0, bounds_i64 w1, bounds_i64 w2, w3, bounds_i64 w4⟩

theorem rat_of {x : Addr} {i : Nat} {b o : Nat} {q : Rq} {vs : List Value} (hx : x = ⟨b, o, none⟩) (hv : vs = [.int .i64 q.s, .int .i64 q.k, .int .i64 q.b, .string q.d, .int .i64 q.m]) (h : ∀ j u, vs[j]? = some u → W.cell? (x.add (i + j)) = some u) : RAt W b (o + i) q := by
  subst hv
  subst hx
  have f := fun j u (hu : _ = some u) => by
    have := h j u hu
    rwa [Addr.add_lit, ← Nat.add_assoc] at this
  exact ⟨f 0 _ rfl, f 1 _ rfl, f 2 _ rfl, f 3 _ rfl, f 4 _ rfl⟩

set_option maxRecDepth 100000 in
theorem open_recs (h : DataW.Trod enc Tryz.prog W 0 (fun _ => true) true 55 (.slice a0 len cap) d p) :
    ∃ l : List Rq, l.length = len ∧ RFits l ∧ Recs W W.heap.size a0 l := by
  obtain ⟨fuel, hf⟩ := h
  rcases open_slice Tryz.underlying55 hf with ⟨hcs, _⟩ | ⟨x, l, c, m, n, D, Pl, hcs, _, hl, hm, hmm, _, hc⟩
  · simp [Value.cells] at hcs
    obtain ⟨rfl, rfl, rfl⟩ := hcs
    exact ⟨[], rfl, fun q hq => (by cases hq), fun hl => absurd rfl hl⟩
  · simp [Value.cells] at hcs
    obtain ⟨rfl, rfl, rfl⟩ := hcs
    have hmc : m = cap := by simpa using hmm
    subst hmc
    have ce : Tryz.prog.cellsOf 42 = 5 := by kernel_rfl
    have each : ∀ i, i < m → ∃ q : Rq, (∀ j u, ([.int .i64 q.s, .int .i64 q.k, .int .i64 q.b, .string q.d, .int .i64 q.m] : List Value)[j]? = some u → W.cell? (x.add (i * 5 + j)) = some u) ∧ RFit q := fun i hi => by
      obtain ⟨cs', g1, g2⟩ := hc i hi
      rw [ce] at g1
      obtain ⟨_, hlen, hcell⟩ := World.cells?_some g1
      match cs', hlen with
      | [v0, v1, v2, v3, v4], _ =>
        obtain ⟨q, rfl, rfl, rfl, rfl, rfl, hfq⟩ := rec_parts g2
        refine ⟨q, fun j u hu => ?_, hfq⟩
        have hj : j < 5 := by have := (List.getElem?_eq_some_iff.1 hu).1; simpa using this
        have e := hcell j hj
        rw [Addr.add_add] at e
        rw [e]
        exact hu
    obtain ⟨q, hq⟩ := choose_lt each
    refine ⟨(List.range len).map q, by simp, fun x hx => ?_, fun hpos => ?_⟩
    · obtain ⟨i, hi, rfl⟩ := List.mem_map.1 hx
      have hi' := List.mem_range.1 hi
      exact (hq i (by omega)).2
    · have hlp : 0 < len := by
        rcases Nat.eq_zero_or_pos len with h0 | h0
        · exact absurd (by rw [h0]; rfl) hpos
        · exact h0
      obtain ⟨b, o, sp⟩ := x
      have hsp : sp = none := by
        simpa [Addr.add] using World.cell?_spot ((hq 0 (by omega)).1 0 _ rfl)
      subst hsp
      have hb : b < W.heap.size := by
        have := (hq 0 (by omega)).1 0 _ rfl
        rw [Addr.add_lit] at this
        exact World.block_lt_of_cell? W ⟨b, _, none⟩ this
      refine ⟨b, o, rfl, hb, fun i x hi => ?_⟩
      have hil : i < len := by
        have := (List.getElem?_eq_some_iff.1 hi).1
        simpa using this
      have hx : q i = x := by simpa [hil] using hi
      subst hx
      exact rat_of rfl rfl (hq i (by omega)).1

set_option maxRecDepth 100000 in
theorem open_ops6 (h : DataW.Trod enc Tryz.prog W 0 (fun _ => true) true 22 (.slice a0 len cap) d p) :
    ∃ l : List Oq, l.length = len ∧ OFits l ∧ Ops W W.heap.size a0 l := by
  obtain ⟨fuel, hf⟩ := h
  rcases open_slice Tryz.underlying22 hf with ⟨hcs, _⟩ | ⟨x, l, c, m, n, D, Pl, hcs, _, hl, hm, hmm, _, hc⟩
  · simp [Value.cells] at hcs
    obtain ⟨rfl, rfl, rfl⟩ := hcs
    exact ⟨[], rfl, fun q hq => (by cases hq), fun hl => absurd rfl hl⟩
  · simp [Value.cells] at hcs
    obtain ⟨rfl, rfl, rfl⟩ := hcs
    have hmc : m = cap := by simpa using hmm
    subst hmc
    have ce : Tryz.prog.cellsOf 45 = 8 := by kernel_rfl
    have each : ∀ i, i < m → ∃ q : Oq, (∀ j u, ([.int .i64 q.kind, .int .i64 q.n, .int .i64 q.s, .int .i64 q.k, .int .i64 q.b, .string q.d, .int .i64 q.m, .int .u64 q.keep] : List Value)[j]? = some u → W.cell? (x.add (i * 8 + j)) = some u) ∧ OFit q := fun i hi => by
      obtain ⟨cs', g1, g2⟩ := hc i hi
      rw [ce] at g1
      obtain ⟨_, hlen, hcell⟩ := World.cells?_some g1
      obtain ⟨y0, y1, y2, y3, k, _, _, t0, t1, t2, t3⟩ := trod_struct4 Tryz.underlying45 g2
      match cs', hlen with
      | [v0, v1, v2, v3, v4, v5, v6, v7], _ =>
        have c1 : Tryz.prog.cellsOf 3 = 1 := by kernel_rfl
        have c2 : Tryz.prog.cellsOf 43 = 1 := by kernel_rfl
        have c3 : Tryz.prog.cellsOf 42 = 5 := by kernel_rfl
        simp [c1, c2, c3] at t0 t1 t2 t3
        obtain ⟨r, rfl, rfl, rfl, rfl, rfl, hfr⟩ := rec_parts t2
        obtain ⟨k0, e0, _, w0⟩ := DataW.trod_int Tryz.underlying3 t0
        obtain ⟨k1, e1, _, w1⟩ := DataW.trod_int Tryz.underlying3 t1
        obtain ⟨k3, e3, _, w3⟩ := DataW.trod_int Tryz.underlying43 t3
        simp at e0 e1 e3
        subst e0 e1 e3
        have b3 := bounds_u64 w3
        obtain ⟨k3, rfl⟩ : ∃ k : Nat, k3 = (k : Int) := ⟨k3.toNat, by omega⟩
        refine ⟨⟨k0, k1, r.s, r.k, r.b, r.d, r.m, k3⟩, fun j u hu => ?_, bounds_i64 w0, bounds_i64 w1, hfr, by show k3 < _; omega⟩
        have hj : j < 8 := by have := (List.getElem?_eq_some_iff.1 hu).1; simpa using this
        have e := hcell j hj
        rw [Addr.add_add] at e
        rw [e]
        exact hu
    obtain ⟨q, hq⟩ := choose_lt each
    refine ⟨(List.range len).map q, by simp, fun x hx => ?_, fun hpos => ?_⟩
    · obtain ⟨i, hi, rfl⟩ := List.mem_map.1 hx
      have hi' := List.mem_range.1 hi
      exact (hq i (by omega)).2
    · have hlp : 0 < len := by
        rcases Nat.eq_zero_or_pos len with h0 | h0
        · exact absurd (by rw [h0]; rfl) hpos
        · exact h0
      obtain ⟨b, o, sp⟩ := x
      have hsp : sp = none := by
        simpa [Addr.add] using World.cell?_spot ((hq 0 (by omega)).1 0 _ rfl)
      subst hsp
      have hb : b < W.heap.size := by
        have := (hq 0 (by omega)).1 0 _ rfl
        rw [Addr.add_lit] at this
        exact World.block_lt_of_cell? W ⟨b, _, none⟩ this
      refine ⟨b, o, rfl, hb, fun i x hi => ?_⟩
      have hil : i < len := by
        have := (List.getElem?_eq_some_iff.1 hi).1
        simpa using this
      have hx : q i = x := by simpa [hil] using hi
      subst hx
      have f := fun j u (hu : _ = some u) => by
        have := (hq i (by omega)).1 j u hu
        rwa [Addr.add_lit, ← Nat.add_assoc] at this
      exact ⟨f 0 _ rfl, f 1 _ rfl, ⟨f 2 _ rfl, f 3 _ rfl, f 4 _ rfl, f 5 _ rfl, f 6 _ rfl⟩, f 7 _ rfl⟩
end

def Shorts (l : List Oq) : Prop := ∀ q ∈ l, q.d.size ≤ 300
/-- Ops of a size that is looked at. -/
def Few (l : List Oq) : Prop := l.length ≤ 80 ∧ Shorts l
/-- What few returns. -/
def FewR (p : Prop) (r : Ending) : Prop := ∃ b : Bool, r = .returned (.bool b) ∧ (b = true ↔ p)

theorem few_long (A : Option Addr) (n c : Nat) (w : World) (hn : 80 < n) :
    Calls Tryz.prog 5 #[.slice A n c] w fun r w' => r = .returned (.bool false) ∧ w = w' := by
  go_enter Tryz.func5, Tryz.ntmps5
  go_wp2
  go_ret
  exact ⟨rfl, rfl⟩
theorem take_snoc6 {α : Type} (l : List α) (k : Nat) (q : α) (h : l[k]? = some q) : l.take (k + 1) = l.take k ++ [q] := by rw [List.take_add_one, h]; rfl

set_option maxRecDepth 100000 in
set_option maxHeartbeats 1000000 in
theorem few_short (A : Option Addr) (n c : Nat) (l : List Oq) (w : World) (hl : l.length = n) (hn : n ≤ 80) (hp : Ops w w.heap.size A l) (hf : OFits l) :
    Calls Tryz.prog 5 #[.slice A n c] w fun r w' => FewR (Shorts l) r ∧ w = w' := by
  have Hl := hide hl
  have Hp := hide hp
  have Hf := hide hf
  clear hl hp hf
  go_enter Tryz.func5, Tryz.ntmps5
  go_wp2_with fail
  go_loop [9] (fun i => ∃ k : Nat, k ≤ n ∧ i = .int .i64 k ∧ Hid (∀ q ∈ l.take k, q.d.size ≤ 300)) (fun i => n - (intOf i).toNat)
  case atStart => exact ⟨0, Nat.zero_le _, rfl, by simp [Hid]⟩
  case round =>
    obtain ⟨k, hk, rfl, hq⟩ := hrel
    rcases Nat.lt_or_ge k n with hlt | hge
    · obtain ⟨q, hqk⟩ : ∃ q, l[k]? = some q := ⟨_, List.getElem?_eq_getElem (by rw [Hl.out]; exact hlt)⟩
      obtain ⟨b, o, rfl, hat⟩ := Hp.out.at_ hqk
      have hc0 : w.cell? ⟨b, o + k * 8 + 2 + 3, none⟩ = some (.string q.d) := hat.2.2.1.2.2.2.1
      rw [show o + k * 8 + 2 + 3 = o + k * 8 + 5 by omega] at hc0
      have hmem : q ∈ l := List.mem_of_getElem? hqk
      have hqm := (Hf.out q hmem).2.2.1.2.2.2.1
      obtain ⟨qd, hqd⟩ : ∃ qd, q.d = qd := ⟨_, rfl⟩
      have hqm' : qd.size ≤ maxLen := by rw [← hqd]; exact hqm
      rw [hqd] at hc0
      have Hqd := hide hqd
      have Hqk := hide hqk
      have Hmem := hide hmem
      clear hqk hmem hat hqm hqd
      by_cases hsz : ¬ qd.size ≤ 300
      · go_wp2
        go_ret
        exact ⟨⟨false, rfl, by simp only [Bool.false_eq_true, false_iff]; exact fun h => hsz (by rw [← Hqd.out]; exact h q Hmem.out)⟩, rfl⟩
      · go_wp2
        go_round
        case rel =>
          refine ⟨k + 1, by omega, by go_num, ?_⟩
          show ∀ x ∈ l.take (k + 1), x.d.size ≤ 300
          rw [take_snoc6 l k q Hqk.out]
          intro x hx
          rcases List.mem_append.1 hx with hx | hx
          · exact hq.out x hx
          · rw [List.mem_singleton.1 hx, Hqd.out]; omega
        case measure => simp [intOf]; omega
    · have hq' := hq.out
      rw [List.take_of_length_le (by rw [Hl.out]; omega)] at hq'
      have HQ := hide hq'
      clear hq' hq
      go_wp2
      go_ret
      exact ⟨⟨true, rfl, by simp only [true_iff]; exact HQ.out⟩, rfl⟩

theorem few_any (A : Option Addr) (n c : Nat) (l : List Oq) (w : World) (hl : l.length = n) (hp : Ops w w.heap.size A l) (hf : OFits l) :
    Calls Tryz.prog 5 #[.slice A n c] w fun r w' => FewR (Few l) r ∧ w = w' := by
  rcases Nat.lt_or_ge 80 n with h | h
  · refine (few_long A n c w h).mono ?_
    rintro r w' ⟨rfl, rfl⟩
    exact ⟨⟨false, rfl, by simp only [Bool.false_eq_true, false_iff]; intro h2; have := h2.1; omega⟩, rfl⟩
  · refine (few_short A n c l w hl h hp hf).mono ?_
    rintro r w' ⟨⟨b, rfl, hb⟩, rfl⟩
    exact ⟨⟨b, rfl, hb.trans ⟨fun h2 => ⟨by omega, h2⟩, fun h2 => h2.2⟩⟩, rfl⟩

end Go.Proofs.YtmfgcinikopgnaaGreatDoor.Jn

namespace Go.Proofs.YtmfgcinikopgnaaGreatDoor.Jn
open Go.RowKit
open Pk Sm Fa Rc Dk

structure Lim (n : Nat) (h : Hd) (E : List Ent) (T : Nat) : Prop where
  t : h.t ≤ T
  g : h.g ≤ T
  f : h.f + E.length ≤ T + 1
  T : T ≤ 1000
  n1 : 1 ≤ n
  n16 : n ≤ 20
/-- The journal p on the disk q: what it holds, of which the first D records are flushed. -/
def JS (w0 : World) (R : Nat → Prop) (p q n : Nat) (h : Hd) (E : List Ent) (D T : Nat) (w : World) : Prop := ∃ S, JW w0 R p q n S (wrs n (E.drop D)) h E w ∧ Jg S n h E D h.g ∧ Lim n h E T
/-- Behind a crash: the first i records are there. -/
def JC (w0 : World) (R : Nat → Prop) (p q n : Nat) (h : Hd) (E : List Ent) (i T : Nat) (w : World) : Prop := ∃ S, JW w0 R p q n S [] h E w ∧ Jg S n h (E.take i) i (h.g + 1) ∧ i ≤ E.length ∧ Lim n h E T

theorem all_one (S : List Sec) (i : Nat) (s : Sec) : all S ([] ++ [(i, s)]) = S.set i s := rfl
theorem all_one' (S : List Sec) (i : Nat) (s : Sec) : all S [(i, s)] = S.set i s := rfl
theorem Jg.headok {S : List Sec} {n : Nat} {h : Hd} {E : List Ent} {D B : Nat} (j : Jg S n h E D B) : 1 ≤ h.f ∧ h.l ≤ h.g := ⟨j.head.1.pos, j.head.1.low⟩

section
variable {w0 w w' : World} {R : Nat → Prop} {p q n : Nat} {h : Hd} {E : List Ent} {D T i : Nat}
theorem JS.lim (j : JS w0 R p q n h E D T w) : Lim n h E T := by
  obtain ⟨S, _, _, h3⟩ := j
  exact h3
theorem JS.few (j : JS w0 R p q n h E D T w) : E.length ≤ n ∧ D ≤ E.length ∧ Seqs h.f E := by
  obtain ⟨S, _, h2, _⟩ := j
  exact ⟨h2.few, h2.le, h2.seqs⟩
theorem JS.below (j : JS w0 R p q n h E D T w) (hb : Below w.heap.size w w') : JS w0 R p q n h E D T w' ∧ RK R w w' := by
  obtain ⟨S, h1, h2, h3⟩ := j
  exact ⟨⟨S, (h1.below hb).1, h2, h3⟩, (h1.below hb).2⟩
theorem JS.bel (j : JS w0 R p q n h E D T w) : Below w0.heap.size w0 w := by
  obtain ⟨S, h1, _⟩ := j
  exact h1.bel
theorem JS.hold {R' : Nat → Prop} (j : JS w0 R p q n h E D T w) (hb : Below w.heap.size w w') (hR : ∀ k, R' k → w.heap.size ≤ k ∧ k < w'.heap.size) : JS w0 (fun k => R k ∨ R' k) p q n h E D T w' := by
  obtain ⟨S, h1, h2, h3⟩ := j
  exact ⟨S, h1.hold hb hR, h2, h3⟩
theorem Lim.more {T' : Nat} (l : Lim n h E T) (hT : T ≤ T') (hT' : T' ≤ 1000) : Lim n h E T' := ⟨Nat.le_trans l.t hT, Nat.le_trans l.g hT, by have := l.f; omega, hT', l.n1, l.n16⟩
theorem JS.more {T' : Nat} (j : JS w0 R p q n h E D T w) (hT : T ≤ T') (hT' : T' ≤ 1000) : JS w0 R p q n h E D T' w := by
  obtain ⟨S, h1, h2, h3⟩ := j
  exact ⟨S, h1, h2, h3.more hT hT'⟩
theorem JS.tab (j : JS w0 R p q n h E D T w) (ht : Tab w0) : Tab w := ht.below j.bel ht.pos
theorem wrs_short (j : JS w0 R p q n h E D T w) : (wrs n (E.drop D)).length ≤ 20 := by
  have := j.few.1
  have := j.lim.n16
  rw [wrs_length, List.length_drop]
  omega

theorem JS.next (j : JS w0 R p q n h E D T w) : Calls Tryz.prog 12 #[.pointer (some ⟨p, 0, none⟩)] w fun e w' => e = .returned (.int .i64 ((h.f + E.length : Nat) : Int)) ∧ Below w.heap.size w w' := by
  have l := j.lim
  have f := j.few
  obtain ⟨S, h1, _⟩ := j
  exact h1.next (by have := l.f; have := l.T; omega) (by have := l.n16; omega)
theorem JS.room (j : JS w0 R p q n h E D T w) : Calls Tryz.prog 24 #[.pointer (some ⟨p, 0, none⟩)] w fun e w' => e = .returned (.int .i64 ((n : Int) - (E.length : Int))) ∧ Below w.heap.size w w' := by
  have l := j.lim
  have f := j.few
  obtain ⟨S, h1, _⟩ := j
  exact h1.room (by have := l.n16; omega) f.1
theorem JS.records (j : JS w0 R p q n h E D T w) : Calls Tryz.prog 22 #[.pointer (some ⟨p, 0, none⟩)] w fun e w' => ∃ v, e = .returned v ∧ Rows5 w' w.heap.size v E ∧ Below w.heap.size w w' := by
  have l := j.lim
  have f := j.few
  obtain ⟨S, h1, _⟩ := j
  exact h1.records (by have := l.n16; omega)
theorem JS.append (j : JS w0 R p q n h E D T w) (ht : Tab w0) (hT : T + 1 ≤ 1000) (he : E.length < n) {s k b : Int} {d : ByteArray} {m : Int} (hok : EOk ⟨h.g, h.f + E.length, k, b, d, m⟩) :
    Calls Tryz.prog 13 #[.pointer (some ⟨p, 0, none⟩), rec5 s k b d m] w fun e w' => e = .returned (.tuple #[.int .i64 ((h.f + E.length : Nat) : Int), .nilIface]) ∧
      JS w0 R p q n h (E ++ [⟨h.g, h.f + E.length, k, b, d, m⟩]) D (T + 1) w' ∧ RK R w w' := by
  have l := j.lim
  have f := j.few
  have hs := wrs_short j
  obtain ⟨S, h1, h2, h3⟩ := j
  refine (h1.append ht (by have := l.f; have := l.T; omega) (by have := l.n16; omega) he hok h2.size (by omega)).mono ?_
  rintro e w' ⟨rfl, hj, hk⟩
  refine ⟨rfl, ⟨S, ?_, h2.append (Nat.le_refl _) he hok rfl rfl, ⟨by have := l.t; omega, by have := l.g; omega, by have := l.f; simp; omega, hT, l.n1, l.n16⟩⟩, hk⟩
  rw [List.drop_append_of_le_length f.2.1]
  simpa [wrs, wr] using hj
theorem JS.refused (j : JS w0 R p q n h E D T w) {s k b : Int} {d : ByteArray} {m : Int} (hd : d.size ≤ 9223372036854775807) (hno : E.length = n ∨ ¬ EOk ⟨h.g, h.f + E.length, k, b, d, m⟩) :
    Calls Tryz.prog 13 #[.pointer (some ⟨p, 0, none⟩), rec5 s k b d m] w fun e w' => ∃ pp, e = .returned (.tuple #[.int .i64 0, .iface 90 (.pointer (some ⟨pp, 0, none⟩))]) ∧
      JFlt w' (.iface 90 (.pointer (some ⟨pp, 0, none⟩))) ((h.f + E.length : Nat) : Int) (if E.length = n then 6 else 1) ∧ Below w.heap.size w w' := by
  have l := j.lim
  have f := j.few
  obtain ⟨S, h1, h2, h3⟩ := j
  exact h1.refused (by have := l.f; have := l.T; omega) (by have := l.n16; omega) f.1 hd hno
theorem JS.flush (j : JS w0 R p q n h E D T w) :
    Calls Tryz.prog 15 #[.pointer (some ⟨p, 0, none⟩)] w fun e w' => e = .returned (.tuple #[]) ∧ JS w0 R p q n h E E.length T w' ∧ RK R w w' := by
  have hs := wrs_short j
  obtain ⟨S, h1, h2, h3⟩ := j
  refine (h1.flush (by omega)).mono ?_
  rintro e w' ⟨rfl, hj, hk⟩
  refine ⟨rfl, ⟨all S (wrs n (E.drop D)), ?_, h2.flush (by omega), h3⟩, hk⟩
  rw [List.drop_length]
  exact hj
theorem headok {t f g l : Nat} (ht : t ≤ 1001) (hf : f ≤ 2000) (hg : g ≤ 1001) (h1 : 1 ≤ f) (hl : l ≤ g) : HOk (t % 2) ⟨t, f, g, l⟩ :=
  ⟨by show t ≤ _; omega, by show f ≤ _; omega, by show g ≤ _; omega, by show l ≤ _; omega, h1, hl, rfl⟩
theorem JS.trim (j : JS w0 R p q n h E D T w) (ht : Tab w0) (hT : T + 1 ≤ 1000) (k : Nat) (hk : 1 ≤ k) (hkm : k ≤ E.length) :
    Calls Tryz.prog 17 #[.pointer (some ⟨p, 0, none⟩), .int .i64 (k : Int)] w fun r w' => r = .returned .nilIface ∧
      JS w0 R p q n ⟨h.t + 1, h.f + k, h.g, lst h.l (E.take k)⟩ (E.drop k) (E.length - k) (T + 1) w' ∧ RK R w w' := by
  have l := j.lim
  have f := j.few
  have hs := wrs_short j
  obtain ⟨S, h1, h2, h3⟩ := j
  have hn := l.n16
  have hf := l.f
  have hTT := l.T
  refine (h1.trim ht k hk hkm (by omega) (by have := l.t; omega) (by omega) (by have := h2.size; omega) (by omega)).mono ?_
  rintro e w' ⟨rfl, hj, hk'⟩
  have hle : lst h.l (E.take k) ≤ h.g := (h2.up.take k).lst
  have h2f := h2.flush (Nat.le_succ _)
  refine ⟨rfl, ⟨_, ?_, h2f.save (h' := ⟨h.t + 1, h.f + k, h.g, lst h.l (E.take k)⟩) rfl (headok (t := h.t + 1) (f := h.f + k) (g := h.g) (l := lst h.l (E.take k)) (by have := l.t; omega) (by omega) (by have := l.g; omega) (by have := h2.headok.1; omega) hle) hkm rfl rfl (Nat.le_refl _) (Nat.le_refl _), ⟨by have := l.t; show h.t + 1 ≤ _; omega, by have := l.g; show h.g ≤ _; omega, by show h.f + k + (E.drop k).length ≤ _; rw [List.length_drop]; omega, hT, l.n1, l.n16⟩⟩, hk'⟩
  rw [show (E.drop k).drop (E.length - k) = [] from List.drop_eq_nil_of_le (by rw [List.length_drop]; exact Nat.le_refl _)]
  rw [all_one'] at hj
  exact hj
theorem JS.crash (j : JS w0 R p q n h E D T w) (K : Nat) (hK : K < 18446744073709551616) :
    Calls Tryz.prog 19 #[.pointer (some ⟨q, 0, none⟩), .int .u64 K] w fun e w' => e = .returned (.tuple #[]) ∧ ∃ i, D ≤ i ∧ JC w0 R p q n h E i T w' ∧ RK R w w' := by
  have hs := wrs_short j
  obtain ⟨S, h1, h2, h3⟩ := j
  refine (h1.crash K hK (by omega)).mono ?_
  rintro e w' ⟨rfl, hj, hk⟩
  obtain ⟨i, hi1, hi2, hi3, _⟩ := h2.crash K (Nat.le_succ _)
  exact ⟨rfl, i, hi1, ⟨_, hj, hi3, hi2, h3⟩, hk⟩
theorem JC.open (j : JC w0 R p q n h E i T w) (ht : Tab w0) (hT : T + 1 ≤ 1000) :
    Calls Tryz.prog 8 #[.pointer (some ⟨q, 0, none⟩), .int .i64 (n : Int)] w fun e w' => ∃ p', e = .returned (.tuple #[.pointer (some ⟨p', 0, none⟩), .nilIface]) ∧ JS w0 R p' q n ⟨h.t + 1, h.f, h.g + 1, h.l⟩ (E.take i) i (T + 1) w' ∧ RK R w w' := by
  obtain ⟨S, h1, h2, hi, l⟩ := j
  have hlen : (E.take i).length = i := by rw [List.length_take]; omega
  have h2' : Jg S n h (E.take i) (E.take i).length (h.g + 1) := by rw [hlen]; exact h2
  refine (h1.open ht l.n1 (by have := l.n16; omega) h2.size (h' := h) h2.cur (by simp)).mono ?_
  rintro e w' ⟨p', rfl, hj, hk⟩
  have hl : load (all S []) n h.g n h.f h.l = E.take i := h2'.load
  rw [hl, all_one] at hj
  have hf := l.f
  have hTT := l.T
  have hsv := h2'.save (h' := ⟨h.t + 1, h.f, h.g + 1, h.l⟩) (k := 0) rfl (headok (t := h.t + 1) (f := h.f) (g := h.g + 1) (l := h.l) (by have := l.t; omega) (by omega) (by have := l.g; omega) h2.headok.1 (by have := h2.headok.2; omega)) (Nat.zero_le _) rfl rfl (Nat.le_succ _) (Nat.le_refl _)
  rw [List.drop_zero, Nat.sub_zero, hlen] at hsv
  refine ⟨p', rfl, ⟨_, ?_, hsv, ⟨by have := l.t; show h.t + 1 ≤ _; omega, by have := l.g; show h.g + 1 ≤ _; omega, by show h.f + (E.take i).length ≤ _; rw [hlen]; omega, hT, l.n1, l.n16⟩⟩, hk⟩
  rw [show (E.take i).drop i = [] from List.drop_eq_nil_of_le (by omega)]
  exact hj
theorem JS.start {N : Nat} {D : Nat → Prop} (hd : Dsk w D q (List.replicate N zero) []) (ht : Tab w0) (h2 : ∀ k, D k → w0.heap.size ≤ k) (h3 : Below w0.heap.size w0 w) (h4 : ∀ k, R k → k < w.heap.size ∧ ¬ D k) (h1n : 1 ≤ n) (h20 : n ≤ 20) (h2n : 2 + n ≤ N) :
    Calls Tryz.prog 8 #[.pointer (some ⟨q, 0, none⟩), .int .i64 (n : Int)] w fun e w' => ∃ p', e = .returned (.tuple #[.pointer (some ⟨p', 0, none⟩), .nilIface]) ∧ JS w0 R p' q n ⟨1, 1, 1, 0⟩ [] 0 1 w' ∧ RK R w w' := by
  refine (JW.start hd ht h2 h3 h4 h1n (by omega) h2n).mono ?_
  rintro e w' ⟨p', rfl, hj, hk⟩
  exact ⟨p', rfl, ⟨_, hj, Jg.fresh h1n h2n, ⟨Nat.le_refl _, Nat.le_refl _, by decide, by decide, h1n, h20⟩⟩, hk⟩
theorem JS.trim_bad (j : JS w0 R p q n h E D T w) (k : Int) (hk : k < 0 ∨ (E.length : Int) < k) :
    Calls Tryz.prog 17 #[.pointer (some ⟨p, 0, none⟩), .int .i64 k] w fun r w' => ∃ pp, r = .returned (.iface 90 (.pointer (some ⟨pp, 0, none⟩))) ∧ JFlt w' (.iface 90 (.pointer (some ⟨pp, 0, none⟩))) k 1 ∧ Below w.heap.size w w' := by
  obtain ⟨S, ⟨G, h1, _⟩, _⟩ := j
  exact Trim_bad w G p q S _ n h E h1 k hk
theorem JS.trim_zero (j : JS w0 R p q n h E D T w) : Calls Tryz.prog 17 #[.pointer (some ⟨p, 0, none⟩), .int .i64 0] w fun r w' => r = .returned .nilIface ∧ w = w' := by
  obtain ⟨S, ⟨G, h1, _⟩, _⟩ := j
  exact Trim_zero w G p q S _ n h E h1

/-- Some journal. -/
def JX (w0 : World) (R : Nat → Prop) (p q n T : Nat) (w : World) : Prop := ∃ h E D, JS w0 R p q n h E D T w
/-- A call whose answer nobody looks at. -/
def Any2 (e : Ending) : Prop := ∃ v, e = .returned v
theorem JX.append (j : JX w0 R p q n T w) (ht : Tab w0) (hT : T + 1 ≤ 1000) {s k b : Int} {d : ByteArray} {m : Int} (hd : d.size ≤ 9223372036854775807) :
    Calls Tryz.prog 13 #[.pointer (some ⟨p, 0, none⟩), rec5 s k b d m] w fun e w' => Any2 e ∧ JX w0 R p q n (T + 1) w' ∧ RK R w w' := by
  obtain ⟨h, E, D, j⟩ := j
  by_cases hc : E.length < n ∧ EOk ⟨h.g, h.f + E.length, k, b, d, m⟩
  · refine (j.append ht hT hc.1 hc.2).mono ?_
    rintro e w' ⟨rfl, hj, hk⟩
    exact ⟨⟨_, rfl⟩, ⟨_, _, _, hj⟩, hk⟩
  · have hno : E.length = n ∨ ¬ EOk ⟨h.g, h.f + E.length, k, b, d, m⟩ := by
      have := j.few.1
      by_cases hE : E.length = n
      · exact Or.inl hE
      · exact Or.inr fun h2 => hc ⟨by omega, h2⟩
    refine (j.refused hd hno).mono ?_
    rintro e w' ⟨pp, rfl, _, hb⟩
    exact ⟨⟨_, rfl⟩, ⟨h, E, D, ((j.below hb).1).more (Nat.le_succ _) hT⟩, (j.below hb).2⟩
theorem JX.trim (j : JX w0 R p q n T w) (ht : Tab w0) (hT : T + 1 ≤ 1000) (k : Int) :
    Calls Tryz.prog 17 #[.pointer (some ⟨p, 0, none⟩), .int .i64 k] w fun e w' => Any2 e ∧ JX w0 R p q n (T + 1) w' ∧ RK R w w' := by
  obtain ⟨h, E, D, j⟩ := j
  by_cases hb : k < 0 ∨ (E.length : Int) < k
  · refine (j.trim_bad k hb).mono ?_
    rintro e w' ⟨pp, rfl, _, hb⟩
    exact ⟨⟨_, rfl⟩, ⟨h, E, D, ((j.below hb).1).more (Nat.le_succ _) hT⟩, (j.below hb).2⟩
  · obtain ⟨k, rfl⟩ : ∃ m : Nat, k = (m : Int) := ⟨k.toNat, by omega⟩
    by_cases h0 : k = 0
    · subst h0
      refine (j.trim_zero).mono ?_
      rintro e w' ⟨rfl, rfl⟩
      exact ⟨⟨_, rfl⟩, ⟨h, E, D, j.more (Nat.le_succ _) hT⟩, fun _ _ => rfl⟩
    · refine (j.trim ht hT k (by omega) (by omega)).mono ?_
      rintro e w' ⟨rfl, hj, hk⟩
      exact ⟨⟨_, rfl⟩, ⟨_, _, _, hj⟩, hk⟩
theorem JX.flush (j : JX w0 R p q n T w) (hT : T + 1 ≤ 1000) :
    Calls Tryz.prog 15 #[.pointer (some ⟨p, 0, none⟩)] w fun e w' => e = .returned (.tuple #[]) ∧ JX w0 R p q n (T + 1) w' ∧ RK R w w' := by
  obtain ⟨h, E, D, j⟩ := j
  refine j.flush.mono ?_
  rintro e w' ⟨rfl, hj, hk⟩
  exact ⟨rfl, ⟨_, _, _, hj.more (Nat.le_succ _) hT⟩, hk⟩
theorem JX.crash (j : JX w0 R p q n T w) (K : Nat) (hK : K < 18446744073709551616) :
    Calls Tryz.prog 19 #[.pointer (some ⟨q, 0, none⟩), .int .u64 K] w fun e w' => e = .returned (.tuple #[]) ∧ (∃ h E i, JC w0 R p q n h E i T w') ∧ RK R w w' := by
  obtain ⟨h, E, D, j⟩ := j
  refine (j.crash K hK).mono ?_
  rintro e w' ⟨rfl, i, _, hj, hk⟩
  exact ⟨rfl, ⟨h, E, i, hj⟩, hk⟩
theorem JX.more {T' : Nat} (j : JX w0 R p q n T w) (hT : T ≤ T') (hT' : T' ≤ 1000) : JX w0 R p q n T' w := by
  obtain ⟨h, E, D, j⟩ := j
  exact ⟨h, E, D, j.more hT hT'⟩
theorem JX.bel (j : JX w0 R p q n T w) : Below w0.heap.size w0 w := by
  obtain ⟨h, E, D, j⟩ := j
  exact j.bel
end

end Go.Proofs.YtmfgcinikopgnaaGreatDoor.Jn
