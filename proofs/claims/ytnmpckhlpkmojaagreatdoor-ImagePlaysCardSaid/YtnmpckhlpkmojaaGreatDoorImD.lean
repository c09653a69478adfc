/-
  The statements' own awake. Condition: the table of half bytes holds what the program's own text lays.
-/
import Derived.Test.YtnmpckhlpkmojaaGreatDoorRows
import Derived.WalkKit
import Derived.ProofKit
import Derived.OpenShut
import Derived.ShutString
import Derived.ChangeOld
import Derived.Below
import Derived.Deep.SlicePairs
import Derived.Lib.SmallJoins
import Derived.Test.YtnmpckhlpkmojaaGreatDoorImC
import Derived.BigQuiet
import Derived.Deep.RegionHeld3
import Derived.Test.YtnmpckhlpkmojaaGreatDoorFaPathB

/-
  The statements' arguments: a slice of texts, a slice of Ops (each with a slice of texts), as lists; what the statements' own few and made return. Nothing is changed.
-/
namespace Go.Proofs.YtnmpckhlpkmojaaGreatDoor.Im
open Go.ChangeShapes Go.WideShapes Go.ChangeAt Go.RowKit Go.Deep Go.Joins
open Pk Sm Fa Rc Dk Wn Lk
open Jn (NumN clampN zer zer_no)

theorem own : ownKnob Tryz.prog.godebug = none := by kernel_rfl
theorem laidOut : laidOutB Tryz.prog = true := by kernel_rfl
abbrev texts (l : List ByteArray) : List Value := strs l
theorem Src.text {w : World} {A : Option Addr} {l : List ByteArray} {j : Nat} {s : ByteArray} (h : Src w A (texts l)) (hs : l[j]? = some s) : ∃ g o, A = some ⟨g, o, none⟩ ∧ g < w.heap.size ∧ w.cell? ⟨g, o + j, none⟩ = some (.string s) := by
  have hx : (texts l)[j]? = some (.string s) := by simp [texts, hs]
  obtain ⟨g, o, e, hl, hc⟩ := h (by intro e; rw [e] at hx; simp at hx)
  exact ⟨g, o, e, hl, hc _ _ hx⟩
section
variable {H : Type} {enc : TypeId × Value → H} {W : World} {d : DataW H} {p : List MemPlace} {a0 : Option Addr} {len cap : Nat}
theorem open_texts (h : DataW.Trod enc Tryz.prog W 0 (fun _ => true) true 37 (.slice a0 len cap) d p) :
    ∃ xs : List ByteArray, xs.length = len ∧ Src W a0 (texts xs) := by
  obtain ⟨fuel, hf⟩ := h
  rcases open_strings Tryz.underlying37 Tryz.underlying9 (by kernel_rfl) hf with ⟨hcs, _⟩ | ⟨x, l, c, zs, hcs, _, hl, hm, hz, _, hcell, hws⟩
  · simp [Value.cells] at hcs
    obtain ⟨rfl, rfl, rfl⟩ := hcs
    exact ⟨[], rfl, fun h => absurd rfl h⟩
  · simp [Value.cells] at hcs
    obtain ⟨rfl, rfl, rfl⟩ := hcs
    have hzl : zs.length = cap := by simpa using hz
    refine ⟨zs.take len, by rw [List.length_take]; omega, fun hne => ?_⟩
    have hpos : 0 < zs.length := by
      rcases Nat.eq_zero_or_pos zs.length with h0 | h0
      · exact absurd (by rw [List.eq_nil_of_length_eq_zero h0]; simp [texts]) hne
      · exact h0
    obtain ⟨b, o, sp⟩ := x
    have hsp : sp = none := by simpa [Addr.add] using World.cell?_spot (hcell 0 hpos)
    subst hsp
    have hb : b < W.heap.size := by
      have := hcell 0 hpos
      rw [Addr.add_lit] at this
      exact World.block_lt_of_cell? W ⟨b, _, none⟩ this
    refine ⟨b, o, rfl, hb, fun j u hu => ?_⟩
    have hj : j < len := by
      have := (List.getElem?_eq_some_iff.1 hu).1
      rw [texts, List.length_map, List.length_take] at this
      omega
    have hjz : j < zs.length := by omega
    have hc := hcell j hjz
    rw [Addr.add_lit] at hc
    rw [hc]
    rw [texts, List.getElem?_map, List.getElem?_take, if_pos hj, List.getElem?_eq_getElem hjz] at hu
    rw [List.getD_eq_getElem?_getD, List.getElem?_eq_getElem hjz]
    simpa using hu
end


/-! ### Ops -/
/-- L (its slice and its texts), Mark, Cut, Keep. -/
structure Oq where
  a : Option Addr
  n : Nat
  c : Nat
  l : List ByteArray
  mark : Int
  cut : Nat
  keep : Nat
instance : Inhabited Oq := ⟨⟨none, 0, 0, [], 0, 0, 0⟩⟩
def OAt (W : World) (b o : Nat) (q : Oq) : Prop := W.cell? ⟨b, o, none⟩ = some (.slice q.a q.n q.c) ∧ W.cell? ⟨b, o + 1, none⟩ = some (.int .i64 q.mark) ∧ W.cell? ⟨b, o + 2, none⟩ = some (.int .u8 (q.cut : Int)) ∧ W.cell? ⟨b, o + 3, none⟩ = some (.int .u64 (q.keep : Int))
def I64 (x : Int) : Prop := -9223372036854775808 ≤ x ∧ x ≤ 9223372036854775807
structure OFit (W : World) (q : Oq) : Prop where
  mark : I64 q.mark
  cut : q.cut < 256
  keep : q.keep < 18446744073709551616
  len : q.l.length = q.n
  src : Src W q.a (texts q.l)
def OFits (W : World) (l : List Oq) : Prop := ∀ q ∈ l, OFit W q
def Ops (W : World) (A : Option Addr) (l : List Oq) : Prop := l ≠ [] → ∃ b o, A = some ⟨b, o, none⟩ ∧ b < W.heap.size ∧ ∀ j q, l[j]? = some q → OAt W b (o + j * 4) q
section
variable {W W' : World} {b o : Nat} {A : Option Addr}
theorem OAt.below {q : Oq} (h : OAt W b o q) (hB : b < W.heap.size) (hb : Below W.heap.size W W') : OAt W' b o q :=
  ⟨(hb.cell (p := ⟨b, o, none⟩) hB).trans h.1, (hb.cell (p := ⟨b, o + 1, none⟩) hB).trans h.2.1, (hb.cell (p := ⟨b, o + 2, none⟩) hB).trans h.2.2.1, (hb.cell (p := ⟨b, o + 3, none⟩) hB).trans h.2.2.2⟩
theorem Ops.below {l : List Oq} (h : Ops W A l) (hb : Below W.heap.size W W') : Ops W' A l := fun hl => by
  obtain ⟨b, o, e, hB, hc⟩ := h hl
  exact ⟨b, o, e, Nat.lt_of_lt_of_le hB hb.size, fun i q hi => (hc i q hi).below hB hb⟩
theorem OFits.below {l : List Oq} (h : OFits W l) (hb : Below W.heap.size W W') : OFits W' l := fun q hq => ⟨(h q hq).mark, (h q hq).cut, (h q hq).keep, (h q hq).len, (h q hq).src.below hb⟩
theorem Ops.at_ {l : List Oq} (h : Ops W A l) {k : Nat} {q : Oq} (hk : l[k]? = some q) : ∃ b o, A = some ⟨b, o, none⟩ ∧ b < W.heap.size ∧ OAt W b (o + k * 4) q := by
  obtain ⟨b, o, e, hb, hc⟩ := h (by rintro rfl; simp at hk)
  exact ⟨b, o, e, hb, hc k q hk⟩
end
section
variable {H : Type} {enc : TypeId × Value → H} {W : World} {d : DataW H} {p : List MemPlace} {a0 : Option Addr} {len cap : Nat}
theorem op_parts {n : Nat} {v0 v1 v2 v3 : Value} {y0 y1 y2 y3 : DataW H × List MemPlace} (h0 : DataW.trod enc Tryz.prog W 0 (fun _ => true) true n 37 [v0] = some y0) (h1 : DataW.trod enc Tryz.prog W 0 (fun _ => true) true n 3 [v1] = some y1)
    (h2 : DataW.trod enc Tryz.prog W 0 (fun _ => true) true n 5 [v2] = some y2) (h3 : DataW.trod enc Tryz.prog W 0 (fun _ => true) true n 38 [v3] = some y3) :
    ∃ q : Oq, v0 = .slice q.a q.n q.c ∧ v1 = .int .i64 q.mark ∧ v2 = .int .u8 (q.cut : Int) ∧ v3 = .int .u64 (q.keep : Int) ∧ OFit W q := by
  obtain ⟨k1, e1, _, w1⟩ := DataW.trod_int Tryz.underlying3 h1
  obtain ⟨k2, e2, _, w2⟩ := DataW.trod_int Tryz.underlying5 h2
  obtain ⟨k3, e3, _, w3⟩ := DataW.trod_int Tryz.underlying38 h3
  simp at e1 e2 e3
  have b1 : I64 k1 := by have := bounds_i64 w1; exact ⟨by omega, by omega⟩
  have b2 := bounds_u8 w2
  have b3 := bounds_u64 w3
  obtain ⟨A, n2, c2, rfl⟩ : ∃ A n2 c2, v0 = .slice A n2 c2 := by
    rcases open_slice Tryz.underlying37 h0 with ⟨hcs, _⟩ | ⟨x, l, c, m, n, D, Pl, hcs, _⟩
    · exact ⟨none, 0, 0, by simpa using hcs⟩
    · exact ⟨some x, l, c, by simpa using hcs⟩
  obtain ⟨xs, hx, hr⟩ := open_texts (d := y0.1) (p := y0.2) (show DataW.Trod enc Tryz.prog W 0 (fun _ => true) true 37 (.slice A n2 c2) y0.1 y0.2 from ⟨n, h0⟩)
  refine ⟨⟨A, n2, c2, xs, k1, k2.toNat, k3.toNat⟩, rfl, e1, ?_, ?_, b1, ?_, ?_, hx, hr⟩
  · rw [e2]; show _ = Value.int .u8 ((k2.toNat : Nat) : Int); rw [Int.toNat_of_nonneg b2.1]
  · rw [e3]; show _ = Value.int .u64 ((k3.toNat : Nat) : Int); rw [Int.toNat_of_nonneg b3.1]
  · show k2.toNat < _; omega
  · show k3.toNat < _; omega
set_option maxRecDepth 100000 in
theorem open_ops14 (h : DataW.Trod enc Tryz.prog W 0 (fun _ => true) true 22 (.slice a0 len cap) d p) :
    ∃ l : List Oq, l.length = len ∧ OFits W l ∧ Ops W a0 l := by
  obtain ⟨fuel, hf⟩ := h
  rcases open_slice Tryz.underlying22 hf with ⟨hcs, _⟩ | ⟨x, l, c, m, n, D, Pl, hcs, _, hl, hm, hmm, _, hc⟩
  · simp [Value.cells] at hcs
    obtain ⟨rfl, rfl, rfl⟩ := hcs
    exact ⟨[], rfl, fun q hq => (by cases hq), fun hl => absurd rfl hl⟩
  · simp [Value.cells] at hcs
    obtain ⟨rfl, rfl, rfl⟩ := hcs
    have hmc : m = cap := by simpa using hmm
    subst hmc
    have ce : Tryz.prog.cellsOf 40 = 4 := by kernel_rfl
    have each : ∀ i, i < m → ∃ q : Oq, W.cell? (x.add (i * 4)) = some (.slice q.a q.n q.c) ∧ W.cell? (x.add (i * 4 + 1)) = some (.int .i64 q.mark) ∧ W.cell? (x.add (i * 4 + 2)) = some (.int .u8 (q.cut : Int)) ∧ W.cell? (x.add (i * 4 + 3)) = some (.int .u64 (q.keep : Int)) ∧ OFit W q := fun i hi => by
      obtain ⟨cs', g1, g2⟩ := hc i hi
      rw [ce] at g1
      obtain ⟨_, hlen, hcell⟩ := World.cells?_some g1
      obtain ⟨y0, y1, y2, y3, k, _, _, t0, t1, t2, t3⟩ := trod_struct4 Tryz.underlying40 g2
      match cs', hlen with
      | [v0, v1, v2, v3], _ =>
        have c0 : Tryz.prog.cellsOf 37 = 1 := by kernel_rfl
        have c1 : Tryz.prog.cellsOf 3 = 1 := by kernel_rfl
        have c2 : Tryz.prog.cellsOf 5 = 1 := by kernel_rfl
        have c3 : Tryz.prog.cellsOf 38 = 1 := by kernel_rfl
        simp [c0, c1, c2, c3] at t0 t1 t2 t3
        obtain ⟨q, rfl, rfl, rfl, rfl, hfq⟩ := op_parts t0 t1 t2 t3
        have e0 := hcell 0 (by omega)
        have e1 := hcell 1 (by omega)
        have e2 := hcell 2 (by omega)
        have e3 := hcell 3 (by omega)
        rw [Addr.add_add] at e0 e1 e2 e3
        exact ⟨q, by simpa using e0, by simpa using e1, by simpa using e2, by simpa using e3, hfq⟩
    obtain ⟨q, hq⟩ := choose_lt each
    refine ⟨(List.range len).map q, by simp, fun x hx => ?_, fun hpos => ?_⟩
    · obtain ⟨i, hi, rfl⟩ := List.mem_map.1 hx
      have hi' := List.mem_range.1 hi
      exact (hq i (by omega)).2.2.2.2
    · have hlp : 0 < len := by
        rcases Nat.eq_zero_or_pos len with h0 | h0
        · exact absurd (by rw [h0]; rfl) hpos
        · exact h0
      obtain ⟨b, o, sp⟩ := x
      have hsp : sp = none := by simpa [Addr.add] using World.cell?_spot (hq 0 (by omega)).1
      subst hsp
      have hb : b < W.heap.size := by
        have := (hq 0 (by omega)).1
        rw [Addr.add_lit] at this
        exact World.block_lt_of_cell? W ⟨b, _, none⟩ this
      refine ⟨b, o, rfl, hb, fun i x hi => ?_⟩
      have hil : i < len := by
        have := (List.getElem?_eq_some_iff.1 hi).1
        simpa using this
      have hx : q i = x := by simpa [hil] using hi
      subst hx
      obtain ⟨c0, c1, c2, c3, _⟩ := hq i (by omega)
      rw [Addr.add_lit] at c0 c1 c2 c3
      exact ⟨c0, by rw [Nat.add_assoc]; exact c1, by rw [Nat.add_assoc]; exact c2, by rw [Nat.add_assoc]; exact c3⟩
end

/-! ### few -/
/-- What few returns; what it allows. -/
def FewR (p : Prop) (r : Ending) : Prop := ∃ b : Bool, r = .returned (.bool b) ∧ (b = true → p)
def Small (q : Oq) : Prop := q.n ≤ 40 ∧ ∀ s ∈ q.l, s.size ≤ 100
theorem few_long (A : Option Addr) (n c : Nat) (w : World) (hn : 20 < n) :
    Calls Tryz.prog 6 #[.slice A n c] w fun r w' => r = .returned (.bool false) ∧ w = w' := by
  have hni : (20 : Int) < (n : Int) := by omega
  go_enter Tryz.func6, Tryz.ntmps6
  go_wp2
  go_ret
  exact ⟨rfl, rfl⟩
set_option maxHeartbeats 2000000 in
theorem few_short (A : Option Addr) (n c : Nat) (l : List Oq) (w : World) (hl : l.length = n) (hn : n ≤ 20) (hp : Ops w A l) (hf : OFits w l) :
    Calls Tryz.prog 6 #[.slice A n c] w fun r w' => FewR (∀ q ∈ l, Small q) r ∧ w = w' := by
  have Hl := hide hl
  have Hp := hide hp
  have Hf := hide hf
  have hni : ¬ (20 : Int) < (n : Int) := by omega
  clear hl hp hf
  go_enter Tryz.func6, Tryz.ntmps6
  go_wp2_with fail
  go_loop [10] (fun i => ∃ k : Nat, k ≤ n ∧ i = .int .i64 k ∧ Hid (∀ q ∈ l.take k, Small q)) (fun i => n - (intOf i).toNat)
  case atStart => exact ⟨0, Nat.zero_le _, rfl, by simp [Hid]⟩
  case round =>
    obtain ⟨k, hk, rfl, hq⟩ := hrel
    rcases Nat.lt_or_ge k n with hlt | hge
    · obtain ⟨q, hqk⟩ : ∃ q, l[k]? = some q := ⟨_, List.getElem?_eq_getElem (by rw [Hl.out]; exact hlt)⟩
      obtain ⟨b, o, rfl, _, c0, _⟩ := Hp.out.at_ hqk
      have hki : (k : Int) < (n : Int) := by omega
      have hmem : q ∈ l := List.mem_of_getElem? hqk
      have Hfit := hide (Hf.out q hmem)
      have Hqk := hide hqk
      have Hlt := hide hlt
      clear hqk hmem hlt hk
      by_cases hsz : 40 < q.n
      · have hszi : (40 : Int) < (q.n : Int) := by omega
        go_wp2
        go_ret
        exact ⟨⟨false, rfl, fun h => (by cases h)⟩, rfl⟩
      · have hszi : ¬ (40 : Int) < (q.n : Int) := by omega
        have hsz2 : (q.n : Int) ≤ 40 := by omega
        clear hsz
        go_wp2
        go_loop [26] (fun i => ∃ j : Nat, j ≤ q.n ∧ i = .int .i64 j ∧ Hid (∀ s ∈ q.l.take j, s.size ≤ 100)) (fun i => q.n - (intOf i).toNat)
        case atStart => exact ⟨0, Nat.zero_le _, rfl, by simp [Hid]⟩
        case round =>
          obtain ⟨j, hj, rfl, hs⟩ := hrel
          rcases Nat.lt_or_ge j q.n with hlt | hge
          · obtain ⟨s, hsj⟩ : ∃ s, q.l[j]? = some s := ⟨_, List.getElem?_eq_getElem (by rw [Hfit.out.len]; exact hlt)⟩
            obtain ⟨g, o2, hqa, _, hcs⟩ := Src.text Hfit.out.src hsj
            have hji : (j : Int) < (q.n : Int) := by omega
            rw [hqa] at c0
            have Hsj := hide hsj
            have Hjl := hide hlt
            clear hsj hlt hj hqa
            by_cases h100 : 100 < s.size
            · have h100i : (100 : Int) < (s.size : Int) := by omega
              go_wp2
              go_ret
              exact ⟨⟨false, rfl, fun h => (by cases h)⟩, rfl⟩
            · have h100i : ¬ (100 : Int) < (s.size : Int) := by omega
              have H100 := hide h100
              clear h100
              go_wp2
              go_round
              case rel =>
                refine ⟨j + 1, Hjl.out, by go_num, ?_⟩
                show ∀ x ∈ q.l.take (j + 1), x.size ≤ 100
                rw [List.take_add_one, Hsj.out]
                intro x hx
                rcases List.mem_append.1 hx with hx | hx
                · exact hs.out x hx
                · simp at hx
                  subst hx
                  have := H100.out
                  omega
              case measure => have := Hjl.out; simp [intOf]; omega
          · obtain rfl : j = q.n := by omega
            clear hge hj
            have HS := hide (show Small q from ⟨by omega, by have := hs.out; rw [List.take_of_length_le (by rw [Hfit.out.len]; exact Nat.le_refl _)] at this; exact this⟩)
            go_wp2
            go_round
            case rel =>
              refine ⟨k + 1, Hlt.out, by go_num, ?_⟩
              show ∀ x ∈ l.take (k + 1), Small x
              rw [List.take_add_one, Hqk.out]
              intro x hx
              rcases List.mem_append.1 hx with hx | hx
              · exact hq.out x hx
              · simp at hx
                subst hx
                exact HS.out
            case measure => have := Hlt.out; simp [intOf]; omega
    · obtain rfl : k = n := by omega
      clear hge hk
      go_wp2
      go_ret
      exact ⟨⟨true, rfl, fun _ q hq' => hq.out q (by rw [List.take_of_length_le (by rw [Hl.out]; exact Nat.le_refl _)]; exact hq')⟩, rfl⟩
theorem few_any (A : Option Addr) (n c : Nat) (l : List Oq) (w : World) (hl : l.length = n) (hp : Ops w A l) (hf : OFits w l) :
    Calls Tryz.prog 6 #[.slice A n c] w fun r w' => FewR (n ≤ 20 ∧ ∀ q ∈ l, Small q) r ∧ w = w' := by
  by_cases hn : 20 < n
  · refine (few_long A n c w hn).mono ?_
    rintro r w' ⟨rfl, h⟩
    exact ⟨⟨false, rfl, fun h => (by cases h)⟩, h⟩
  · refine (few_short A n c l w hl (by omega) hp hf).mono ?_
    rintro r w' ⟨⟨b, rfl, h1⟩, h⟩
    exact ⟨⟨b, rfl, fun h2 => ⟨by omega, h1 h2⟩⟩, h⟩

/-! ### made -/
/-- The blocks of a list. -/
def mk (l : List ByteArray) : List ByteArray := upto (l.take 32)
theorem mk_length (l : List ByteArray) : (mk l).length = 32 := upto_length (by simp; omega)
theorem mk_short {l : List ByteArray} {m : Nat} (h : ∀ s ∈ l, s.size ≤ m) : ∀ s ∈ mk l, s.size ≤ m := by
  intro s hs
  rcases List.mem_append.1 hs with h1 | h1
  · exact h s (List.mem_of_mem_take h1)
  · rw [List.eq_of_mem_replicate h1]
    exact Nat.zero_le _
theorem mk_in {l : List ByteArray} {k : Nat} {s : ByteArray} (h : l[k]? = some s) (hk : k < 32) : (mk (l.take k)).set k s = mk (l.take (k + 1)) := by
  have hl := (List.getElem?_eq_some_iff.1 h).1
  unfold mk
  rw [List.take_take, List.take_take, Nat.min_eq_right (by omega), Nat.min_eq_right (by omega), upto_snoc (by simp; omega) hk, List.take_add_one, h]
  rfl
theorem mk_out {l : List ByteArray} {k : Nat} (hk : 32 ≤ k) : mk (l.take k) = mk (l.take (k + 1)) := by
  unfold mk
  rw [List.take_take, List.take_take, Nat.min_eq_left (by omega), Nat.min_eq_left (by omega)]
theorem mk_all {l : List ByteArray} {k : Nat} (h : l.length ≤ k) : mk (l.take k) = mk l := by rw [List.take_of_length_le h]

end Go.Proofs.YtnmpckhlpkmojaaGreatDoor.Im

/-
  The contract of the statements' own made: the blocks of a list of texts. Nothing that was there is changed.
-/
namespace Go.Proofs.YtnmpckhlpkmojaaGreatDoor.Im
open Go.RowKit
open Pk Sm Fa Rc Dk Wn Lk
open Jn (NumN clampN zer zer_no)

set_option maxRecDepth 100000 in
set_option maxHeartbeats 4000000 in
theorem made_any (A : Option Addr) (n c : Nat) (l : List ByteArray) (w : World) (hl : l.length = n) (hn : n ≤ 40) (hs : Src w A (texts l)) :
    Calls Tryz.prog 11 #[.slice A n c] w fun e w' => e = .returned (bval (mk l)) ∧ Below w.heap.size w w' := by
  have HL := hide hl
  have HS := hide hs
  clear hl hs
  go_enter Tryz.func11, Tryz.ntmps11
  go_wp2_with (refine wpList_alloc_told rfl 43 rfl _ blks_zero ?_)
  intro w1 H1
  have Z1 := hide (show Lies w1 w.heap.size emp by rw [H1.out]; exact heap_alloc_new w _)
  have B1 := hide (show Below w.heap.size w w1 by rw [H1.out]; exact (Below.refl _ _).alloc (Nat.le_refl _) _)
  have hz1 : w.heap.size < w1.heap.size := Z1.out.lt
  clear H1
  go_wp2_with (refine wpList_alloc_told rfl 43 rfl _ blks_zero ?_)
  intro w2 H2
  have Z2 := hide (show Lies w2 w.heap.size emp by rw [H2.out]; exact Z1.out.below ((Below.refl _ _).alloc (Nat.le_refl _) _))
  have L2 := hide (show Lies w2 w1.heap.size emp by rw [H2.out]; exact heap_alloc_new w1 _)
  have B2 := hide (show Below w.heap.size w w2 by rw [H2.out]; exact B1.out.alloc (by omega) _)
  have hne : w.heap.size ≠ w1.heap.size := by omega
  generalize w1.heap.size = z at *
  clear H2 Z1 B1
  go_wp2
  go_loopw [7] (fun j wr => ∃ k : Nat, k ≤ n ∧ j = .int .i64 k ∧ Hid (Lies wr z (mk (l.take k))) ∧ Hid (Lies wr w.heap.size emp) ∧ Hid (Below w.heap.size w wr)) (fun j _ => n - (intOf j).toNat)
  case atStart => exact ⟨0, by omega, rfl, L2.out, Z2.out, B2.out⟩
  case round =>
    obtain ⟨k, hk, rfl, hls, hz, hb⟩ := hrel
    rcases Nat.lt_or_ge k n with hlt | hge
    · have hki : (k : Int) < (n : Int) := by omega
      have HK := hide hlt
      obtain ⟨s, hsk⟩ : ∃ s, l[k]? = some s := ⟨_, List.getElem?_eq_getElem (by rw [HL.out]; exact hlt)⟩
      obtain ⟨b, o, hA, hbl, hc⟩ := Src.text HS.out hsk
      have HSK := hide hsk
      by_cases h32 : k < 32
      · have h32i : (k : Int) < 32 := by omega
        have hcw : wr.cell? ⟨b, o + k, none⟩ = some (.string s) := (hb.out.cell (p := ⟨b, o + k, none⟩) hbl).trans hc
        have hcd : wr.drew.cell? ⟨b, o + k, none⟩ = some (.string s) := hcw
        have hr : (k : Int).tmod 8 = ((k % 8 : Nat) : Int) := by rw [Int.tmod_eq_emod_of_nonneg (by omega)]; rfl
        have hq : (k : Int).tdiv 8 = ((k / 8 : Nat) : Int) := by rw [Int.tdiv_eq_ediv_of_nonneg (by omega)]; rfl
        obtain ⟨v, hv⟩ : ∃ v, k / 8 = v := ⟨_, rfl⟩
        obtain ⟨i, hi⟩ : ∃ i, k % 8 = i := ⟨_, rfl⟩
        have hv4 : (v : Int) < 4 := by omega
        have hi8 : (i : Int) < 8 := by omega
        have hwv : IntKind.i64.wrap (v : Int) = (v : Int) := IntWalk.i64_in _ (by omega)
        have hwi : IntKind.i64.wrap (i : Int) = (i : Int) := IntWalk.i64_in _ (by omega)
        have HVK := hide (show v * 8 + i = k by omega)
        rw [hi] at hr
        rw [hv] at hq
        obtain ⟨so, hso⟩ : ∃ so, (mk (l.take k))[k]? = some so := ⟨_, List.getElem?_eq_getElem (by rw [mk_length]; exact h32)⟩
        have hcz := hls.out.drew.cell hso
        have hfz := hls.out.drew.free k
        rw [← HVK.out] at hcz hfz
        have hcd2 : (wr.drew.setCell ⟨z, v * 8 + i, none⟩ (.string s)).cell? ⟨b, o + k, none⟩ = some (.string s) := by
          rw [← hcd]
          simp only [World.cell?, heap_setCell_other _ ⟨z, v * 8 + i, none⟩ b _ (show b ≠ z by have := hne; have := hz1; have := L2.out.lt; omega)]
        have HSET := hide (mk_in hsk h32)
        rw [hA]
        clear hlt hk hv hi hso hsk hA hc h32
        go_wp2_with fail
        refine wp_region_held (S := (fun W => W.cell? ⟨b, o + k, none⟩ = some (.string s))) (by kernel_rfl) ?_
        change wpAnyH _ _ _ _ _ _ _ _ (World.drew _)
        refine wpAnyH_take (i := 0) (oi := ⟨some 12, _, _, _, _, _⟩) (v := ?_) rfl (by kernel_rfl) (by kernel_rfl) (by kernel_rfl) (fun _ _ _ h => h) (Or.inl ⟨by rfl, ?_⟩) hcd ?_
        rotate_left 1
        · (intro w hSw; have hSw1 := hSw; go_simp; try with_reducible rfl)
        simp only [Act.put, List.setIfInBounds_toArray, List.set_cons_zero, List.set_cons_succ]
        refine wpAnyH_take (i := 1) (oi := ⟨some 13, _, _, _, _, _⟩) (v := ?_) rfl (by kernel_rfl) (by kernel_rfl) (by kernel_rfl) (fun _ _ _ h => h) (Or.inl ⟨by rfl, ?_⟩) hcd ?_
        rotate_left 1
        · (intro w hSw; have hSw1 := hSw; go_simp; try with_reducible rfl)
        simp only [Act.put, List.setIfInBounds_toArray, List.set_cons_zero, List.set_cons_succ]
        refine wpAnyH_take (i := 2) (oi := ⟨some 14, _, _, _, _, _⟩) (v := ?_) rfl (by kernel_rfl) (by kernel_rfl) (by kernel_rfl) (fun _ _ _ h => h) (Or.inl ⟨by rfl, ?_⟩) hcd ?_
        rotate_left 1
        · (intro w hSw; have hSw1 := hSw; go_simp; try with_reducible rfl)
        simp only [Act.put, List.setIfInBounds_toArray, List.set_cons_zero, List.set_cons_succ]
        refine wpAnyH_take (i := 3) (oi := ⟨some 15, _, _, _, _, _⟩) (v := ?_) rfl (by kernel_rfl) (by kernel_rfl) (by kernel_rfl) (fun _ _ _ h => h) (Or.inl ⟨by rfl, ?_⟩) hcd ?_
        rotate_left 1
        · (intro w hSw; have hSw1 := hSw; go_simp; try with_reducible rfl)
        simp only [Act.put, List.setIfInBounds_toArray, List.set_cons_zero, List.set_cons_succ]
        refine wpAnyH_take (i := 4) (oi := ⟨some 16, _, _, _, _, _⟩) (v := ?_) rfl (by kernel_rfl) (by kernel_rfl) (by kernel_rfl) (fun _ _ _ h => h) (Or.inl ⟨by rfl, ?_⟩) hcd ?_
        rotate_left 1
        · (intro w hSw; have hSw1 := hSw; go_simp; try with_reducible rfl)
        simp only [Act.put, List.setIfInBounds_toArray, List.set_cons_zero, List.set_cons_succ]
        refine wpAnyH_take (i := 5) (oi := ⟨some 17, _, _, _, _, _⟩) (v := ?_) rfl (by kernel_rfl) (by kernel_rfl) (by kernel_rfl) (fun _ _ _ h => h) (Or.inl ⟨by rfl, ?_⟩) hcd ?_
        rotate_left 1
        · (intro w hSw; have hSw1 := hSw; go_simp; try with_reducible rfl)
        simp only [Act.put, List.setIfInBounds_toArray, List.set_cons_zero, List.set_cons_succ]
        refine wpAnyH_take (i := 6) (oi := ⟨some 18, _, _, _, _, _⟩) (v := ?_) rfl (by kernel_rfl) (by kernel_rfl) (by kernel_rfl) (fun _ _ _ h => h) (Or.inl ⟨by rfl, ?_⟩) hcd ?_
        rotate_left 1
        · (intro w hSw; have hSw1 := hSw; go_simp; try with_reducible rfl)
        simp only [Act.put, List.setIfInBounds_toArray, List.set_cons_zero, List.set_cons_succ]
        refine wpAnyH_take (i := 7) (oi := ⟨some 19, _, _, _, _, _⟩) (v := ?_) rfl (by kernel_rfl) (by kernel_rfl) (by kernel_rfl) (fun _ _ _ h => h) (Or.inl ⟨by rfl, ?_⟩) hcd ?_
        rotate_left 1
        · (intro w hSw; have hSw1 := hSw; go_simp; try with_reducible rfl)
        simp only [Act.put, List.setIfInBounds_toArray, List.set_cons_zero, List.set_cons_succ]
        refine wpAnyH_take (i := 8) (oi := ⟨some 20, _, _, _, _, _⟩) (v := ?_) rfl (by kernel_rfl) (by kernel_rfl) (by kernel_rfl) (fun _ _ _ h => h) (Or.inl ⟨by rfl, ?_⟩) hcd ?_
        rotate_left 1
        · (intro w hSw; have hSw1 := hSw; go_simp; try with_reducible rfl)
        simp only [Act.put, List.setIfInBounds_toArray, List.set_cons_zero, List.set_cons_succ]
        refine wpAnyH_take (i := 9) (oi := ⟨some 21, _, _, _, _, _⟩) (v := ?_) rfl (by kernel_rfl) (by kernel_rfl) (by kernel_rfl) (fun _ _ _ h => h) (Or.inl ⟨by rfl, ?_⟩) hcd ?_
        rotate_left 1
        · (intro w hSw; have hSw1 := hSw; go_simp; try with_reducible rfl)
        simp only [Act.put, List.setIfInBounds_toArray, List.set_cons_zero, List.set_cons_succ]
        refine wpAnyH_ready (rs := [10]) (by kernel_rfl) (by simp) ?_
        refine AllReadyH.cons (o := ⟨none, _, _, _, _, _⟩) rfl (fun K hK => ?_) AllReadyH.nil
        go_simp
        refine hK.out _ _ hcd2 (fun hHeld => ?_)
        clear hK K
        clear hHeld
        refine wpAnyH_done (by kernel_rfl) ?_ _
        skip
        have HL5 := hide (show Lies (wr.setCell ⟨z, v * 8 + i, none⟩ (.string s)).drew z (mk (l.take (k + 1))) by
          have := hls.out.set (v * 8 + i) s
          rw [HVK.out] at this
          rw [HSET.out] at this
          rw [HVK.out]
          exact this)
        have HZ5 := hide (hz.out.other ⟨z, v * 8 + i, none⟩ (.string s) (by simpa using Ne.symm hne)).drew
        have HB5 := hide (hb.out.setCell (p := ⟨z, v * 8 + i, none⟩) (Nat.le_of_lt hz1) (.string s)).drew
        clear hcw hcd hcd2 hcz hfz hls hz hb HSET hr hq hwv hwi hv4 hi8
        generalize (wr.setCell _ _).drew = w6 at *
        go_wp2
        go_roundw
        case rel => exact ⟨k + 1, HK.out, by go_num, HL5.out, HZ5.out, HB5.out⟩
        case measure => have := HK.out; simp [intOf]; omega
      · have h32i : ¬ (k : Int) < 32 := by omega
        have HL5 := hide (show Lies wr z (mk (l.take (k + 1))) by rw [← mk_out (by omega)]; exact hls.out)
        clear hlt hk hsk hA hc h32 hls hbl
        go_wp2
        go_roundw
        case rel => exact ⟨k + 1, HK.out, by go_num, HL5.out, hz.out, hb.out⟩
        case measure => have := HK.out; simp [intOf]; omega
    · obtain rfl : k = n := by omega
      obtain ⟨M, hM⟩ : ∃ M, M = mk l := ⟨_, rfl⟩
      have HMM := hide hM
      have HL5 := hide (show Lies wr z M by
        rw [hM]
        have := hls.out
        rw [mk_all (by rw [HL.out]; exact Nat.le_refl _)] at this
        exact this)
      have HR := hide HL5.out.range
      have HRL := hide (show (strs M).length = 32 by rw [List.length_map, hM, mk_length])
      clear hls hge hk hM
      go_wp2_with (first | with_reducible refine wpList_load_mid rfl 43 (.tmp 3) rfl z 0 rfl (strs M) _ HR.out Tryz.underlying43 rfl (by rw [blks_size, HRL.out]) ?_ | with_reducible refine wpList_store_row rfl 43 (.tmp 2) (.tmp 23) rfl w.heap.size (strs M).toArray rfl rfl 43 _ hz.out.heap (by rw [blks_size, List.size_toArray, HRL.out]) (by rw [List.size_toArray, List.size_toArray, HRL.out]; simp) (all_oneCell_toArray (strs_one _)) ?_)
      refine bodyPost_ret (v := .agg (strs M).toArray) (results_cell_row rfl _ _ w.heap.size 43 _ (0, 0) _ rfl (setRow_heap _ _ _ _ _ _ hz.out.heap) Tryz.underlying43 rfl (by rw [blks_size, List.size_toArray, HRL.out])) rfl ⟨by rw [HMM.out], below_setRow hb.out (by omega) _⟩

end Go.Proofs.YtnmpckhlpkmojaaGreatDoor.Im

/-
  fault.First and fault.Code at what an image returns: the fault image around a number, or nil. Nothing is changed. Condition: the library's variable errors.errorType holds what the program's own text lays.
-/
namespace Go.Proofs.YtnmpckhlpkmojaaGreatDoor.Im
open Go.RowKit
open Pk Sm Fa Rc Dk Wn Lk

theorem Flt.chain {w : World} {p : Nat} {r k : Int} (h : Flt w p r k) : Chain w [(p, nam, r)] (.iface 120 (.pointer (some ⟨p, 0, none⟩))) (.iface 71 (.int .i64 k)) := ⟨rfl, _, h, rfl⟩
theorem First_flt {w : World} {p : Nat} {r k : Int} (hty : Ety w) (h : Flt w p r k) :
    Calls Tryz.prog 38 #[.iface 120 (.pointer (some ⟨p, 0, none⟩)), .string nam] w fun e w' => e = .returned (.tuple #[.int .i64 r, .bool true]) ∧ Below w.heap.size w w' := by
  have hF := First_any _ _ _ nam _ w rfl hty h.chain (Or.inr ⟨k, rfl⟩) (by simp)
  have hf : Fa.fnd (pls [(p, nam, r)]) nam = (r, true) := fnd_yes (by simp)
  rw [hf] at hF
  exact hF
theorem First_none {w : World} (hty : Ety w) : Calls Tryz.prog 38 #[.nilIface, .string nam] w fun e w' => e = .returned (.tuple #[.int .i64 0, .bool false]) ∧ Below w.heap.size w w' :=
  First_any [] _ _ nam _ w rfl hty rfl (Or.inl rfl) (by simp)
theorem Code_flt {w : World} {p : Nat} {r k : Int} (hty : Ety w) (h : Flt w p r k) :
    Calls Tryz.prog 39 #[.iface 120 (.pointer (some ⟨p, 0, none⟩))] w fun e w' => e = .returned (.int .i64 k) ∧ Below w.heap.size w w' :=
  Code_any _ _ _ k w hty h.chain (Or.inr rfl) (by simp)
theorem Code_none {w : World} (hty : Ety w) : Calls Tryz.prog 39 #[.nilIface] w fun e w' => e = .returned (.int .i64 0) ∧ Below w.heap.size w w' :=
  Code_any [] _ _ 0 w hty rfl (Or.inl ⟨rfl, rfl⟩) (by simp)

end Go.Proofs.YtnmpckhlpkmojaaGreatDoor.Im

/-
  The statements' own place, at a fault of the image's and at none. Nothing that was there is changed. Condition: the library's variable errors.errorType holds what the program's own text lays.
-/
namespace Go.Proofs.YtnmpckhlpkmojaaGreatDoor.Im
open Go.RowKit
open Pk Sm Fa Rc Dk Wn Lk

set_option maxRecDepth 100000 in
theorem place_flt {w : World} {p : Nat} {s e : Int} (hty : Ety w) (h : Flt w p s e) (he : e ≠ 0) :
    Calls Tryz.prog 14 #[.iface 120 (.pointer (some ⟨p, 0, none⟩)), .int .i64 s, .int .i64 e] w fun r w' => r = .returned (.bool true) ∧ Below w.heap.size w w' := by
  have HF := hide (First_flt hty h)
  have HY := hide hty
  have HP := hide hty.lt
  have HV := hide h
  have he3 : (e != 0) = true := by simp [he]
  clear hty h he
  go_enter Tryz.func14, Tryz.ntmps14
  go_wp2_with fail
  refine HF.out.mono ?_
  rintro r w1 ⟨rfl, hb1⟩
  have HC := hide (Code_flt (HY.out.below hb1 HP.out) (Flt.below HV.out hb1))
  have HB1 := hide hb1
  clear hb1 HF
  go_wp2_with fail
  refine HC.out.mono ?_
  rintro r w2 ⟨rfl, hb2⟩
  have HB2 := hide (HB1.out.trans (hb2.mono HB1.out.size))
  clear hb2 HC
  go_wp2
  go_ret
  exact ⟨rfl, HB2.out⟩
set_option maxRecDepth 100000 in
theorem place_none {w : World} (hty : Ety w) (s : Int) :
    Calls Tryz.prog 14 #[.nilIface, .int .i64 s, .int .i64 0] w fun r w' => r = .returned (.bool true) ∧ Below w.heap.size w w' := by
  have HF := hide (First_none hty)
  have HY := hide hty
  have HP := hide hty.lt
  clear hty
  go_enter Tryz.func14, Tryz.ntmps14
  go_wp2_with fail
  refine HF.out.mono ?_
  rintro r w1 ⟨rfl, hb1⟩
  have HC := hide (Code_none (HY.out.below hb1 HP.out))
  have HB1 := hide hb1
  clear hb1 HF
  go_wp2_with fail
  refine HC.out.mono ?_
  rintro r w2 ⟨rfl, hb2⟩
  have HB2 := hide (HB1.out.trans (hb2.mono HB1.out.size))
  clear hb2 HC
  go_wp2
  go_ret
  exact ⟨rfl, HB2.out⟩

end Go.Proofs.YtnmpckhlpkmojaaGreatDoor.Im

/-
  An image on its disk, among other things, as the statements use it: one contract for each call. Condition: the table of half bytes holds what the program's own text lays.
-/
namespace Go.Proofs.YtnmpckhlpkmojaaGreatDoor.Im
open Go.RowKit
open Pk Sm Fa Rc Dk Wn Lk
open Jn (NumN clampN zer zer_no)

/-- Some of the things, in another order. -/
theorem St.sub {w0 w : World} {Ts Us : List Thg} (h : St w0 Ts w) (f : Nat → Nat) (hU : ∀ i T, Us[i]? = some T → ∃ j, Ts[j]? = some T ∧ ∀ x, f x = i + 1 ↔ x = j) : St w0 Us w := by
  obtain ⟨C, h1, h2⟩ := h.ex
  refine ⟨⟨fun k => if C k = 0 then 0 else f (C k - 1), fun k hk => ?_, fun i T hi => ?_⟩, h.bel⟩
  · by_cases h0 : C k = 0
    · have hk' : (if C k = 0 then 0 else f (C k - 1)) ≠ 0 := hk
      rw [if_pos h0] at hk'
      exact absurd rfl hk'
    · exact h1 k h0
  · obtain ⟨j, hj, hf⟩ := hU i T hi
    have e : (fun k => (if C k = 0 then 0 else f (C k - 1)) = i + 1) = fun k => C k = j + 1 := by
      funext k
      by_cases h0 : C k = 0
      · rw [if_pos h0, h0]
        simp
      · rw [if_neg h0]
        refine propext ((hf _).trans ?_)
        omega
    rw [e]
    exact h2 j T hj
theorem St.second {w0 w : World} {D I : Thg} {Us : List Thg} (h : St w0 (D :: I :: Us) w) : St w0 (D :: Us) w := by
  refine St.sub h (fun x => if x = 0 then 1 else if x = 1 then 0 else x) fun i T hi => ?_
  match i, hi with
  | 0, hi => exact ⟨0, hi, fun x => by by_cases h0 : x = 0 <;> by_cases h1 : x = 1 <;> simp [h0, h1]⟩
  | i + 1, hi => exact ⟨i + 2, hi, fun x => by
      by_cases h0 : x = 0
      · subst h0; simp
      · by_cases h1 : x = 1
        · subst h1; simp
        · simp [h0, h1]⟩
theorem St.front {w0 w : World} {D I : Thg} {Us : List Thg} (h : St w0 ((D :: Us) ++ [I]) w) : St w0 (D :: I :: Us) w := by
  refine St.sub h (fun x => if x = 0 then 1 else if x = Us.length + 1 then 2 else x + 2) fun i T hi => ?_
  match i, hi with
  | 0, hi => exact ⟨0, hi, fun x => by
      by_cases h0 : x = 0
      · subst h0; simp
      · rw [if_neg h0]
        split <;> omega⟩
  | 1, hi =>
    have hi' : some I = some T := hi
    cases hi'
    exact ⟨Us.length + 1, by simp, fun x => by
      by_cases h0 : x = 0
      · subst h0
        rw [if_pos rfl]
        omega
      · rw [if_neg h0]
        split <;> omega⟩
  | i + 2, hi =>
    have hi' : Us[i]? = some T := hi
    have hl := (List.getElem?_eq_some_iff.1 hi').1
    exact ⟨i + 1, by
      show (D :: (Us ++ [I]))[i + 1]? = _
      rw [List.getElem?_cons_succ, List.getElem?_append_left hl, hi'], fun x => by
      by_cases h0 : x = 0
      · subst h0
        rw [if_pos rfl]
        omega
      · rw [if_neg h0]
        split <;> omega⟩

/-- The sectors of an image, nothing loose. -/
structure Gd (S : List Sec) (i : Img) : Prop where
  len : S.length = 66
  full : Full S
  opn : Im.opn S = some i
theorem Gd.sz {S : List Sec} {i : Img} (g : Gd S i) : Sz i im0 := ⟨(opn_data g.opn).1, rfl⟩
theorem Upd.sz {S : List Sec} {L : List Wr} {i n : Img} {k : Nat} (u : Upd S L i n k) : Sz i n := ⟨(opn_data u.opn).1, u.next.blen⟩
theorem zero_zer : (Dk.zero : Sec) = zer := rfl
theorem Gd.fresh : Gd (List.replicate 66 Dk.zero) im0 := by
  rw [zero_zer]
  refine ⟨by simp, fun s hs => ?_, opn_fresh (by omega)⟩
  rw [List.eq_of_mem_replicate hs]
  simp [zer]
theorem Upd.crash_good {S : List Sec} {L : List Wr} {i n : Img} {k : Nat} (u : Upd S L i n k) (K : Nat) : Gd (Dk.crash K 0 L S) i ∨ Gd (Dk.crash K 0 L S) n := by
  have hl : (Dk.crash K 0 L S).length = 66 := by rw [crash_length]; exact u.len
  have hf : Full (Dk.crash K 0 L S) := u.full.crash u.fits
  exact (u.crash K).imp (fun h => ⟨hl, hf, h⟩) fun h => ⟨hl, hf, h⟩
theorem Upd.end_good {S : List Sec} {L : List Wr} {i n : Img} (u : Upd S L i n 34) : Gd (all S L) n := ⟨by rw [all_length]; exact u.len, u.full.all u.fits, u.end⟩
theorem Gd.begin {S : List Sec} {i n : Img} (g : Gd S i) (h : Next i n) : Upd S [] i n 0 := Upd.start g.len g.full g.opn h
/-- Why an update is refused: a number, or 0. -/
def bgn (i : Img) (B : List ByteArray) (m : Int) : Int := if (∃ d ∈ B, 16 < d.size) ∨ 1152921504606846975 < m then 1 else if m ≤ (i.m : Int) then 10 else 0
section
variable {w0 w : World} {Us : List Thg} {p q k : Nat} {i n : Img} {S : List Sec} {L : List Wr}
abbrev PS (q p : Nat) (S : List Sec) (L : List Wr) (i n : Img) (k : Nat) (Us : List Thg) : List Thg := dskT q S L :: imgT p q i n k :: Us
theorem PS.ib (h : St w0 (PS q p S L i n k Us) w) : IB w p q i n k := St.ib h (j := 1) rfl
theorem PS.mark (h : St w0 (PS q p S L i n k Us) w) : Calls Tryz.prog 21 #[.pointer (some ⟨p, 0, none⟩)] w fun e w' => e = .returned (.int .i64 (i.m : Int)) ∧ w = w' := Mark_any (PS.ib h)
theorem PS.idle (h : St w0 (PS q p S L i im0 k Us) w) (z : Sz i im0) : Calls Tryz.prog 16 #[.pointer (some ⟨p, 0, none⟩)] w fun e w' => e = .returned (.bool false) ∧ w = w' := Busy_any (PS.ib h) z _ (decide_eq_false (Nat.lt_irrefl 0))
theorem PS.busy (h : St w0 (PS q p S L i n k Us) w) (u : Upd S L i n k) : Calls Tryz.prog 16 #[.pointer (some ⟨p, 0, none⟩)] w fun e w' => e = .returned (.bool true) ∧ w = w' := Busy_any (PS.ib h) u.sz _ (decide_eq_true (by have := u.next.turn; omega))
theorem PS.blocks (h : St w0 (PS q p S L i n k Us) w) (z : Sz i n) : Calls Tryz.prog 23 #[.pointer (some ⟨p, 0, none⟩)] w fun e w' => e = .returned (bval i.B) ∧ Below w.heap.size w w' := Blocks_any (PS.ib h) z
/-- A disk is opened. -/
theorem PS.open (h : St w0 (dskT q S [] :: Us) w) (ht : Tab w0) (g : Gd S i) : Calls Tryz.prog 9 #[.pointer (some ⟨q, 0, none⟩)] w fun e w' => ∃ p, e = .returned (.tuple #[.pointer (some ⟨p, 0, none⟩), .nilIface]) ∧ St w0 (PS q p S [] i im0 0 Us) w' := by
  refine (Open_good h (a := 0) rfl (by rw [g.len]; exact Nat.le_refl _) (by simp) ht i g.opn).mono ?_
  rintro e w' ⟨p, rfl, hs⟩
  exact ⟨p, rfl, St.front hs⟩
theorem PS.again (h : St w0 (PS q p S [] i n k Us) w) {i' : Img} (ht : Tab w0) (g : Gd S i') : Calls Tryz.prog 9 #[.pointer (some ⟨q, 0, none⟩)] w fun e w' => ∃ p, e = .returned (.tuple #[.pointer (some ⟨p, 0, none⟩), .nilIface]) ∧ St w0 (PS q p S [] i' im0 0 Us) w' := PS.open (St.second h) ht g
theorem PS.start (h : St w0 Us w) : Calls Tryz.prog 7 #[.int .i64 66] w fun e w' => ∃ q, e = .returned (.pointer (some ⟨q, 0, none⟩)) ∧ St w0 (Us ++ [dskT q (List.replicate 66 Dk.zero) []]) w' := by
  refine (New_any 66 66 w (by decide)).mono ?_
  rintro e w' ⟨q, G, rfl, hd, hG, hb⟩
  exact ⟨q, rfl, h.add hb (T := dskT q _ _) (G := G) hd hG⟩
theorem PS.crash (h : St w0 (PS q p S L i n k Us) w) {K : Nat} (hK : K < 18446744073709551616) (hL : L.length ≤ 1000000) :
    Calls Tryz.prog 19 #[.pointer (some ⟨q, 0, none⟩), .int .u64 K] w fun e w' => e = .returned (.tuple #[]) ∧ St w0 (PS q p (Dk.crash K 0 L S) [] i n k Us) w' := St.crash h (a := 0) rfl hK hL
theorem PS.does (h : St w0 (PS q p S L i n k Us) w) (u : Upd S L i n k) (ht : Tab w0) (hk : k < 35) :
    ∃ S' L', Does w0 (PS q p S L i n k Us) 0 1 p q k i n S L S' L' ∧ (k < 34 → Upd S' L' i n (k + 1)) ∧ (k = 34 → S' = all S L ∧ L' = []) := by
  have hl := u.loose
  rcases Nat.lt_or_ge k 32 with h1 | h1
  · obtain ⟨d, hd⟩ : ∃ d, n.B[k]? = some d := ⟨_, List.getElem?_eq_getElem (by have := u.next.blen; omega)⟩
    have hbd : Im.blk n k = d := by
      show n.B.getD k ⟨#[]⟩ = d
      rw [List.getD_eq_getElem?_getD, hd]
      rfl
    refine ⟨S, L ++ [(at2 n.t k, bsec n.t d)], fun w h => perform_block h (a := 0) (b := 1) rfl rfl (by omega) u.sz (by omega) ht k h1 d hd (u.next.short d (List.mem_of_getElem? hd)) u.len, fun _ => ?_, fun h => by omega⟩
    rw [← hbd]
    exact u.block h1
  · rcases (show k = 32 ∨ k = 33 ∨ k = 34 by omega) with rfl | rfl | rfl
    · exact ⟨all S L, [], fun w h => perform_flush h (a := 0) (b := 1) rfl rfl (by omega) u.sz (by omega) ht, fun _ => u.flush, fun h => by omega⟩
    · exact ⟨S, _, fun w h => perform_head h (a := 0) (b := 1) rfl rfl (by omega) u.sz (by omega) ht u.len, fun _ => u.head, fun h => by omega⟩
    · exact ⟨all S L, [], fun w h => perform_last h (a := 0) (b := 1) rfl rfl (by omega) u.sz (by omega) ht, fun h => by omega, fun _ => ⟨rfl, rfl⟩⟩
/-- A step that isn't the last one. -/
theorem PS.step (h : St w0 (PS q p S L i n k Us) w) (u : Upd S L i n k) (ht : Tab w0) (hk : k < 34) :
    Calls Tryz.prog 17 #[.pointer (some ⟨p, 0, none⟩)] w fun e w' => e = .returned (.tuple #[.bool false, .nilIface]) ∧ ∃ S' L', Upd S' L' i n (k + 1) ∧ St w0 (PS q p S' L' i n (k + 1) Us) w' := by
  obtain ⟨S', L', hd, h1, _⟩ := PS.does h u ht (by omega)
  refine (Step_more h (a := 0) (b := 1) (S := S) (L := L) rfl (by omega) u.sz (by have := u.next.turn; omega) (k + 1) hk rfl hd).mono ?_
  rintro e w' ⟨rfl, hs⟩
  exact ⟨rfl, S', L', h1 hk, hs⟩
theorem PS.last (h : St w0 (PS q p S L i n 34 Us) w) (u : Upd S L i n 34) (ht : Tab w0) :
    Calls Tryz.prog 17 #[.pointer (some ⟨p, 0, none⟩)] w fun e w' => e = .returned (.tuple #[.bool true, .nilIface]) ∧ St w0 (PS q p (all S L) [] n im0 0 Us) w' := by
  obtain ⟨S', L', hd, _, h2⟩ := PS.does h u ht (by omega)
  obtain ⟨rfl, rfl⟩ := h2 rfl
  refine (Step_last h (a := 0) (b := 1) (S := S) (L := L) rfl (by omega) u.sz (by have := u.next.turn; omega) hd).mono ?_
  rintro e w' ⟨rfl, hs⟩
  exact ⟨rfl, hs⟩
/-- No update is in progress. -/
theorem PS.nostep (h : St w0 (PS q p S L i im0 k Us) w) (z : Sz i im0) : Calls Tryz.prog 17 #[.pointer (some ⟨p, 0, none⟩)] w fun e w' => ∃ pp, e = .returned (.tuple #[.bool false, .iface 120 (.pointer (some ⟨pp, 0, none⟩))]) ∧ (Flt w' pp 0 9 ∧ w.heap.size ≤ pp) ∧ Below w.heap.size w w' := Step_idle h (b := 1) rfl z
theorem PS.begin_no (h : St w0 (PS q p S L i im0 k Us) w) (z : Sz i im0) {B : List ByteArray} (hB : B.length = 32) (hM : ∀ d ∈ B, d.size ≤ 1000) {m : Int} (hc : bgn i B m ≠ 0) :
    Calls Tryz.prog 15 #[.pointer (some ⟨p, 0, none⟩), bval B, .int .i64 m] w fun e w' => ImErr w m (bgn i B m) e w' := by
  by_cases h1 : ∀ d ∈ B, d.size ≤ 16
  · have hn : ¬ ∃ d ∈ B, 16 < d.size := fun ⟨d, hd, hs⟩ => by have := h1 d hd; omega
    by_cases h2 : 1152921504606846975 < m
    · rw [show bgn i B m = 1 from if_pos (Or.inr h2)]
      exact Begin_great h (b := 1) rfl z B hB hM m h1 h2
    · have hb : bgn i B m = if m ≤ (i.m : Int) then 10 else 0 := if_neg fun h => h.elim hn h2
      by_cases h3 : m ≤ (i.m : Int)
      · rw [hb, if_pos h3]
        exact Begin_stale h (b := 1) rfl z B hB hM m h1 h2 h3
      · rw [hb, if_neg h3] at hc
        exact absurd rfl hc
  · have hn : ∃ d ∈ B, 16 < d.size := by
      apply Classical.byContradiction
      intro h
      exact h1 fun d hd => Nat.le_of_not_lt fun hs => h ⟨d, hd, hs⟩
    rw [show bgn i B m = 1 from if_pos (Or.inl hn)]
    exact Begin_long h (b := 1) rfl z B hB hM m h1
theorem bgn_ok {B : List ByteArray} {m : Int} (h : bgn i B m = 0) : (∀ d ∈ B, d.size ≤ 16) ∧ m ≤ 1152921504606846975 ∧ (i.m : Int) < m := by
  unfold bgn at h
  split at h
  · omega
  · rename_i h1
    split at h
    · omega
    · rename_i h2
      exact ⟨fun d hd => Nat.le_of_not_lt fun hs => h1 (Or.inl ⟨d, hd, hs⟩), by have := fun h => h1 (Or.inr h); omega, by omega⟩
theorem PS.begin_ok (h : St w0 (PS q p S L i im0 k Us) w) (z : Sz i im0) {B : List ByteArray} (hB : B.length = 32) (hM : ∀ d ∈ B, d.size ≤ 1000) {m : Int} (hc : bgn i B m = 0) (ht : i.t ≤ 1000) :
    ∃ mk : Nat, m = (mk : Int) ∧ Next i ⟨i.t + 1, mk, B⟩ ∧ Calls Tryz.prog 15 #[.pointer (some ⟨p, 0, none⟩), bval B, .int .i64 m] w fun e w' => e = .returned .nilIface ∧ St w0 (PS q p S L i ⟨i.t + 1, mk, B⟩ k Us) w' := by
  obtain ⟨h1, h2, h3⟩ := bgn_ok hc
  obtain ⟨mk, hmk⟩ : ∃ mk : Nat, m = (mk : Int) := ⟨m.toNat, by omega⟩
  refine ⟨mk, hmk, ⟨rfl, by show i.t + 1 ≤ _; omega, by show mk ≤ _; omega, by show i.m < mk; omega, hB, h1⟩, ?_⟩
  exact Begin_ok h (b := 1) rfl z B hB hM m h1 mk hmk (by omega) (by omega) (by omega)
theorem PS.begin_busy (h : St w0 (PS q p S L i n k Us) w) (u : Upd S L i n k) {B : List ByteArray} (hB : B.length = 32) (hM : ∀ d ∈ B, d.size ≤ 1000) (m : Int) :
    Calls Tryz.prog 15 #[.pointer (some ⟨p, 0, none⟩), bval B, .int .i64 m] w fun e w' => ImErr w m 9 e w' := Begin_busy h (b := 1) rfl u.sz B hB hM m (by have := u.next.turn; omega)
end
set_option maxHeartbeats 1000000 in
theorem Blocks_nil (w : World) : Calls Tryz.prog 23 #[.pointer none] w fun e w' => e = .returned (bval emp) ∧ Below w.heap.size w w' := by
  go_enter Tryz.func23, Tryz.ntmps23
  go_wp2_with (refine wpList_alloc_told rfl 43 rfl _ blks_zero ?_)
  intro w1 H1
  have B1 := hide (show Below w.heap.size w w1 by rw [H1.out]; exact (Below.refl _ _).alloc (Nat.le_refl _) _)
  have Z1 := hide (show Lies w1 w.heap.size emp by rw [H1.out]; exact heap_alloc_new w _)
  clear H1
  go_wp2_with (refine wpList_row_told rfl 43 (.tmp 2) (.tmp 5) rfl w.heap.size 0 (strs emp) rfl (by kernel_rfl) 43 (strs emp).toArray Z1.out.heap (by kernel_rfl) (by simp) (strs_one _) ?_)
  intro w2 H2
  have Z2 := hide (show Lies w2 w.heap.size emp by rw [H2.out]; exact setRow_heap _ _ _ (strs emp).toArray _ _ Z1.out.heap)
  have B2 := hide (show Below w.heap.size w w2 by rw [H2.out]; exact below_setRow B1.out (Nat.le_refl _) _)
  clear H2 Z1 B1
  go_wp2
  refine bodyPost_ret (v := .agg (strs emp).toArray) (results_cell_row rfl _ _ w.heap.size 43 _ (0, 0) _ rfl Z2.out.heap Tryz.underlying43 rfl (by kernel_rfl)) rfl ⟨rfl, B2.out⟩

end Go.Proofs.YtnmpckhlpkmojaaGreatDoor.Im

namespace Go.Proofs.YtnmpckhlpkmojaaGreatDoor.Im
open Go.RowKit
open Pk Sm Fa Rc Dk Wn Lk

/-- No blocks, written out. -/
abbrev zlit : Array Value := #[.string ⟨#[]⟩, .string ⟨#[]⟩, .string ⟨#[]⟩, .string ⟨#[]⟩, .string ⟨#[]⟩, .string ⟨#[]⟩, .string ⟨#[]⟩, .string ⟨#[]⟩, .string ⟨#[]⟩, .string ⟨#[]⟩, .string ⟨#[]⟩, .string ⟨#[]⟩, .string ⟨#[]⟩, .string ⟨#[]⟩, .string ⟨#[]⟩, .string ⟨#[]⟩, .string ⟨#[]⟩, .string ⟨#[]⟩, .string ⟨#[]⟩, .string ⟨#[]⟩, .string ⟨#[]⟩, .string ⟨#[]⟩, .string ⟨#[]⟩, .string ⟨#[]⟩, .string ⟨#[]⟩, .string ⟨#[]⟩, .string ⟨#[]⟩, .string ⟨#[]⟩, .string ⟨#[]⟩, .string ⟨#[]⟩, .string ⟨#[]⟩, .string ⟨#[]⟩]
theorem eql_zero (E : List ByteArray) (hE : E.length = 32) (v : Bool) (hv : decide (E = emp) = v) (W : World) : (Op.equalIn 10000 43 (bval E) (.agg #[.string ⟨#[]⟩, .string ⟨#[]⟩, .string ⟨#[]⟩, .string ⟨#[]⟩, .string ⟨#[]⟩, .string ⟨#[]⟩, .string ⟨#[]⟩, .string ⟨#[]⟩, .string ⟨#[]⟩, .string ⟨#[]⟩, .string ⟨#[]⟩, .string ⟨#[]⟩, .string ⟨#[]⟩, .string ⟨#[]⟩, .string ⟨#[]⟩, .string ⟨#[]⟩, .string ⟨#[]⟩, .string ⟨#[]⟩, .string ⟨#[]⟩, .string ⟨#[]⟩, .string ⟨#[]⟩, .string ⟨#[]⟩, .string ⟨#[]⟩, .string ⟨#[]⟩, .string ⟨#[]⟩, .string ⟨#[]⟩, .string ⟨#[]⟩, .string ⟨#[]⟩, .string ⟨#[]⟩, .string ⟨#[]⟩, .string ⟨#[]⟩, .string ⟨#[]⟩])).run Tryz.prog W = .ok v W := by
  subst hv
  exact blks_equal E emp hE (by simp) W
theorem emp_short : ∀ d ∈ emp, d.size ≤ 1000 := fun d hd => by rw [List.eq_of_mem_replicate hd]; exact Nat.zero_le _
theorem bgn_three : bgn im0 emp 3 = 0 := by
  unfold bgn
  rw [if_neg, if_neg]
  · decide
  · rintro (⟨d, hd, hs⟩ | h)
    · rw [List.eq_of_mem_replicate hd] at hs
      exact absurd hs (by decide)
    · omega
set_option maxRecDepth 100000 in
set_option maxHeartbeats 2000000 in
theorem awake_any (w : World) (ht : Tab w) : Calls Tryz.prog 5 #[] w fun r w' => r = .returned (.bool true) ∧ Below w.heap.size w w' := by
  have HT := hide ht
  have HN := hide (PS.start (St.start w))
  clear ht
  go_enter Tryz.func5, Tryz.ntmps5
  go_wp2_with fail
  refine (Sectors_any _).mono ?_
  rintro e w1 ⟨rfl, rfl⟩
  go_wp2_with fail
  refine HN.out.mono ?_
  rintro e w1 ⟨q, rfl, hs⟩
  have HO := hide (PS.open (q := q) (Us := []) hs HT.out Gd.fresh)
  clear hs HN
  go_wp2_with fail
  refine HO.out.mono ?_
  rintro e w2 ⟨p, rfl, hs⟩
  have HS := hide hs
  clear hs HO
  go_wp2_with fail
  refine (Sectors_any _).mono ?_
  rintro e w1 ⟨rfl, rfl⟩
  obtain ⟨mk, hmk, hnx, hb⟩ := PS.begin_ok HS.out Gd.fresh.sz (B := emp) (by simp) emp_short bgn_three (Nat.zero_le _)
  have HB := hide hb
  have HU := hide (Gd.fresh.begin hnx)
  clear hmk hb
  go_wp2_with fail
  refine HB.out.mono ?_
  rintro e w3 ⟨rfl, hs⟩
  have HS3 := hide hs
  clear hs HS HB
  go_wp2_with fail
  refine (PS.busy HS3.out HU.out).mono ?_
  rintro e w4 ⟨rfl, rfl⟩
  go_wp2
  go_ret
  exact ⟨rfl, HS3.out.bel⟩

end Go.Proofs.YtnmpckhlpkmojaaGreatDoor.Im
