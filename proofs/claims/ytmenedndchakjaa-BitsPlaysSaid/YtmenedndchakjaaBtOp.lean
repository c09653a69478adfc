/-
  BitsPlays' script, a slice of changes (two integers and a slice of integers each), as a list; what the statements' own few returns. Plain theorems on readings. Nothing is changed.
-/
import Derived.Lib.SmallJoins
import Derived.Test.YtmenedndchakjaaBtLift
namespace Go.Proofs.Ytmenedndchakjaa.Bt
open Go.ChangeShapes Go.WideShapes Go.ChangeAt Go.RowKit Go.Deep Go.Joins
open Pk

/-- Kind, B, and L: its slice and its integers. -/
structure Oq where
  kind : Int
  b : Int
  a : Option Addr
  n : Nat
  c : Nat
  l : List Int
instance : Inhabited Oq := ⟨⟨0, 0, none, 0, 0, []⟩⟩
def OAt (W : World) (b o : Nat) (q : Oq) : Prop := W.cell? ⟨b, o, none⟩ = some (.int .i64 q.kind) ∧ W.cell? ⟨b, o + 1, none⟩ = some (.int .i64 q.b) ∧ W.cell? ⟨b, o + 2, none⟩ = some (.slice q.a q.n q.c)
def I64 (x : Int) : Prop := -9223372036854775808 ≤ x ∧ x ≤ 9223372036854775807
def OFit (W : World) (B : Nat) (q : Oq) : Prop := I64 q.kind ∧ I64 q.b ∧ q.l.length = q.n ∧ q.n ≤ maxLen ∧ Ints W B q.a q.l
def OFits (W : World) (B : Nat) (l : List Oq) : Prop := ∀ q ∈ l, OFit W B q
def Ops (W : World) (B : Nat) (A : Option Addr) (l : List Oq) : Prop := l ≠ [] → ∃ b o, A = some ⟨b, o, none⟩ ∧ b < B ∧ ∀ j q, l[j]? = some q → OAt W b (o + j * 3) q
section
variable {W W' : World} {B b o : Nat} {A : Option Addr}
theorem OAt.below {q : Oq} (h : OAt W b o q) (hB : b < B) (hb : Below B W W') : OAt W' b o q := ⟨(hb.cell (p := ⟨b, o, none⟩) hB).trans h.1, (hb.cell (p := ⟨b, o + 1, none⟩) hB).trans h.2.1, (hb.cell (p := ⟨b, o + 2, none⟩) hB).trans h.2.2⟩
theorem Ops.below {l : List Oq} (h : Ops W B A l) (hb : Below B W W') : Ops W' B A l := fun hl => by
  obtain ⟨b, o, e, hB, hc⟩ := h hl
  exact ⟨b, o, e, hB, fun i q hi => (hc i q hi).below hB hb⟩
theorem OFits.below {l : List Oq} (h : OFits W B l) (hb : Below B W W') : OFits W' B l := fun q hq => by
  obtain ⟨h1, h2, h3, h4, h5⟩ := h q hq
  exact ⟨h1, h2, h3, h4, h5.below hb⟩
theorem Ops.more1 {B' : Nat} {l : List Oq} (h : Ops W B A l) (hB : B ≤ B') : Ops W B' A l := fun hl => by
  obtain ⟨b, o, e, hb, hc⟩ := h hl
  exact ⟨b, o, e, by omega, hc⟩
theorem OFits.more1 {B' : Nat} {l : List Oq} (h : OFits W B l) (hB : B ≤ B') : OFits W B' l := fun q hq => by
  obtain ⟨h1, h2, h3, h4, h5⟩ := h q hq
  exact ⟨h1, h2, h3, h4, h5.more hB⟩
theorem Ops.at_ {l : List Oq} (h : Ops W B A l) {k : Nat} {q : Oq} (hk : l[k]? = some q) : ∃ b o, A = some ⟨b, o, none⟩ ∧ OAt W b (o + k * 3) q := by
  obtain ⟨b, o, e, _, hc⟩ := h (by rintro rfl; simp at hk)
  exact ⟨b, o, e, hc k q hk⟩
end

section
variable {H : Type} {enc : TypeId × Value → H} {W : World} {d : DataW H} {p : List MemPlace} {a0 : Option Addr} {len cap : Nat}
theorem op_parts {n : Nat} {v0 v1 v2 : Value} {y0 y1 y2 : DataW H × List MemPlace} (h0 : DataW.trod enc Try.prog W 0 (fun _ => true) true n 3 [v0] = some y0) (h1 : DataW.trod enc Try.prog W 0 (fun _ => true) true n 3 [v1] = some y1)
    (h2 : DataW.trod enc Try.prog W 0 (fun _ => true) true n 22 [v2] = some y2) :
    ∃ q : Oq, v0 = .int .i64 q.kind ∧ v1 = .int .i64 q.b ∧ v2 = .slice q.a q.n q.c ∧ OFit W W.heap.size q := by
  obtain ⟨k0, e0, _, w0⟩ := DataW.trod_int Try.underlying3 h0
  obtain ⟨k1, e1, _, w1⟩ := DataW.trod_int Try.underlying3 h1
  simp at e0 e1
  have b0 : I64 k0 := by have := bounds_i64 w0; exact ⟨by omega, by omega⟩
  have b1 : I64 k1 := by have := bounds_i64 w1; exact ⟨by omega, by omega⟩
  obtain ⟨A, n2, c2, rfl⟩ : ∃ A n2 c2, v2 = .slice A n2 c2 := by
    rcases open_slice Try.underlying22 h2 with ⟨hcs, _⟩ | ⟨x, l, c, m, n, D, Pl, hcs, _⟩
    · exact ⟨none, 0, 0, by simpa using hcs⟩
    · exact ⟨some x, l, c, by simpa using hcs⟩
  obtain ⟨hm, xs, hx, hr⟩ := open_nums (d := y2.1) (p := y2.2) (show DataW.Trod enc Try.prog W 0 (fun _ => true) true 22 (.slice A n2 c2) y2.1 y2.2 from ⟨n, h2⟩)
  exact ⟨⟨k0, k1, A, n2, c2, xs⟩, e0, e1, rfl, b0, b1, hx, hm, hr⟩

set_option maxRecDepth 100000 in
theorem open_ops (h : DataW.Trod enc Try.prog W 0 (fun _ => true) true 23 (.slice a0 len cap) d p) :
    len ≤ maxLen ∧ ∃ l : List Oq, l.length = len ∧ OFits W W.heap.size l ∧ Ops W W.heap.size a0 l := by
  obtain ⟨fuel, hf⟩ := h
  rcases open_slice Try.underlying23 hf with ⟨hcs, _⟩ | ⟨x, l, c, m, n, D, Pl, hcs, _, hl, hm, hmm, _, hc⟩
  · simp [Value.cells] at hcs
    obtain ⟨rfl, rfl, rfl⟩ := hcs
    exact ⟨by unfold maxLen; omega, [], rfl, fun q hq => (by cases hq), fun hl => absurd rfl hl⟩
  · simp [Value.cells] at hcs
    obtain ⟨rfl, rfl, rfl⟩ := hcs
    have hmc : m = cap := by simpa using hmm
    subst hmc
    have ce : Try.prog.cellsOf 32 = 3 := by kernel_rfl
    have each : ∀ i, i < m → ∃ q : Oq, W.cell? (x.add (i * 3)) = some (.int .i64 q.kind) ∧ W.cell? (x.add (i * 3 + 1)) = some (.int .i64 q.b) ∧ W.cell? (x.add (i * 3 + 2)) = some (.slice q.a q.n q.c) ∧ OFit W W.heap.size q := fun i hi => by
      obtain ⟨cs', g1, g2⟩ := hc i hi
      rw [ce] at g1
      obtain ⟨_, hlen, hcell⟩ := World.cells?_some g1
      obtain ⟨y0, y1, y2, k, _, _, t0, t1, t2⟩ := trod_struct3 Try.underlying32 g2
      match cs', hlen with
      | [v0, v1, v2], _ =>
        have c1 : Try.prog.cellsOf 3 = 1 := by kernel_rfl
        have c2 : Try.prog.cellsOf 22 = 1 := by kernel_rfl
        simp [c1, c2] at t0 t1 t2
        obtain ⟨q, rfl, rfl, rfl, hfq⟩ := op_parts t0 t1 t2
        have e0 := hcell 0 (by omega)
        have e1 := hcell 1 (by omega)
        have e2 := hcell 2 (by omega)
        rw [Addr.add_add] at e0 e1 e2
        exact ⟨q, by simpa using e0, by simpa using e1, by simpa using e2, hfq⟩
    obtain ⟨q, hq⟩ := choose_lt each
    refine ⟨by omega, (List.range len).map q, by simp, fun x hx => ?_, fun hpos => ?_⟩
    · obtain ⟨i, hi, rfl⟩ := List.mem_map.1 hx
      have hi' := List.mem_range.1 hi
      exact (hq i (by omega)).2.2.2
    · have hlp : 0 < len := by
        rcases Nat.eq_zero_or_pos len with h0 | h0
        · exact absurd (by rw [h0]; rfl) hpos
        · exact h0
      obtain ⟨b, o, sp⟩ := x
      have hsp : sp = none := by simpa [Addr.add] using World.cell?_spot (hq 0 (by omega)).1
      subst hsp
      have hb : b < W.heap.size := by
        have := (hq 0 (by omega)).1
        rw [Addr.add_lit] at this
        exact World.block_lt_of_cell? W ⟨b, _, none⟩ this
      refine ⟨b, o, rfl, hb, fun i x hi => ?_⟩
      have hil : i < len := by
        have := (List.getElem?_eq_some_iff.1 hi).1
        simpa using this
      have hx : q i = x := by simpa [hil] using hi
      subst hx
      obtain ⟨c0, c1, c2, _⟩ := hq i (by omega)
      rw [Addr.add_lit] at c0 c1 c2
      exact ⟨c0, by rw [Nat.add_assoc]; exact c1, by rw [Nat.add_assoc]; exact c2⟩
end

def Shorts (l : List Oq) : Prop := ∀ q ∈ l, q.n ≤ 50
/-- What few returns. -/
def FewR (p : Prop) (r : Ending) : Prop := ∃ b : Bool, r = .returned (.bool b) ∧ (b = true ↔ p)

theorem few_long (A : Option Addr) (n c : Nat) (w : World) (hn : 200 < n) :
    Calls Try.prog 9 #[.slice A n c] w fun r w' => r = .returned (.bool false) ∧ w = w' := by
  go_enter Try.func9, Try.ntmps9
  go_wp2
  go_ret
  exact ⟨rfl, rfl⟩

set_option maxHeartbeats 1000000 in
theorem few_short (A : Option Addr) (n c : Nat) (l : List Oq) (w : World) (hl : l.length = n) (hn : n ≤ 200) (hp : Ops w w.heap.size A l) (hf : OFits w w.heap.size l) :
    Calls Try.prog 9 #[.slice A n c] w fun r w' => FewR (Shorts l) r ∧ w = w' := by
  have Hl := hide hl
  have Hp := hide hp
  have Hf := hide hf
  clear hl hp hf
  go_enter Try.func9, Try.ntmps9
  go_wp2_with fail
  go_loop [9] (fun i => ∃ k : Nat, k ≤ n ∧ i = .int .i64 k ∧ Hid (∀ q ∈ l.take k, q.n ≤ 50)) (fun i => n - (intOf i).toNat)
  case atStart => exact ⟨0, Nat.zero_le _, rfl, by simp [Hid]⟩
  case round =>
    obtain ⟨k, hk, rfl, hq⟩ := hrel
    rcases Nat.lt_or_ge k n with hlt | hge
    · obtain ⟨q, hqk⟩ : ∃ q, l[k]? = some q := ⟨_, List.getElem?_eq_getElem (by rw [Hl.out]; exact hlt)⟩
      obtain ⟨b, o, rfl, _, _, hc0⟩ := Hp.out.at_ hqk
      have hmem : q ∈ l := List.mem_of_getElem? hqk
      have hqm : q.n ≤ 9223372036854775807 := (Hf.out q hmem).2.2.2.1
      have Hqk := hide hqk
      have Hmem := hide hmem
      clear hqk hmem
      by_cases hsz : ¬ q.n ≤ 50
      · go_wp2
        go_ret
        exact ⟨⟨false, rfl, by simp only [Bool.false_eq_true, false_iff]; exact fun h => hsz (h q Hmem.out)⟩, rfl⟩
      · go_wp2
        go_round
        case rel =>
          refine ⟨k + 1, by omega, by go_num, ?_⟩
          show ∀ x ∈ l.take (k + 1), x.n ≤ 50
          rw [take_more Hqk.out]
          intro x hx
          rcases List.mem_append.1 hx with hx | hx
          · exact hq.out x hx
          · simp at hx
            subst hx
            omega
        case measure => simp [intOf]; omega
    · obtain rfl : k = n := by omega
      go_wp2
      go_ret
      exact ⟨⟨true, rfl, by
        simp only [true_iff]
        intro q hq'
        exact hq.out q (by rw [List.take_of_length_le (by rw [Hl.out]; exact Nat.le_refl _)]; exact hq')⟩, rfl⟩

end Go.Proofs.Ytmenedndchakjaa.Bt
