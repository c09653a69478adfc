/-
  The statements' arguments: a slice of Ops, and one Op, as numbers and texts; what the statements' own few returns. Nothing is changed. Conditions: in each.
-/
import Derived.Test.YtapiogcoipeinaaGreatDoorRows
import Derived.WalkKit
import Derived.ProofKit
import Derived.OpenShut
import Derived.ShutString
import Derived.ChangeOld
import Derived.Below
import Derived.Deep.SlicePairs
import Derived.Lib.SmallJoins
import Derived.Test.YtapiogcoipeinaaGreatDoorT22
namespace Go.Proofs.YtapiogcoipeinaaGreatDoor.Vo
open Go.ChangeShapes Go.WideShapes Go.ChangeAt Go.RowKit Go.Deep Go.Joins
open Pk Sm Fa Rc Dk Jn
abbrev Oq := Int × Int × ByteArray × Nat
def Ops (W : World) (B : Nat) (A : Option Addr) (l : List Oq) : Prop :=
 l ≠ [] → ∃ b o, A = some ⟨b, o, none⟩ ∧ b < B ∧ ∀ j q, l[j]? = some q → W.cell? ⟨b, o + j * 4, none⟩ = some (.int .i64 q.1) ∧ W.cell? ⟨b, o + j * 4 + 1, none⟩ = some (.int .i64 q.2.1) ∧ W.cell? ⟨b, o + j * 4 + 2, none⟩ = some (.string q.2.2.1) ∧ W.cell? ⟨b, o + j * 4 + 3, none⟩ = some (.int .u64 q.2.2.2)
theorem Ops.below {W w' : World} {B : Nat} {A : Option Addr} {l : List Oq} (h : Ops W B A l) (hb : Below B W w') : Ops w' B A l := fun hl => by
 obtain ⟨b, o, e, hB, hc⟩ := h hl
 exact ⟨b, o, e, hB, fun i q hi => ⟨(hb.cell (p := ⟨b, o + i * 4, none⟩) hB).trans (hc i q hi).1, (hb.cell (p := ⟨b, o + i * 4 + 1, none⟩) hB).trans (hc i q hi).2.1, (hb.cell (p := ⟨b, o + i * 4 + 2, none⟩) hB).trans (hc i q hi).2.2.1, (hb.cell (p := ⟨b, o + i * 4 + 3, none⟩) hB).trans (hc i q hi).2.2.2⟩⟩
theorem Ops.more1 {W : World} {B B' : Nat} {A : Option Addr} {l : List Oq} (h : Ops W B A l) (hB : B ≤ B') : Ops W B' A l := fun hl => by
 obtain ⟨b, o, e, hb, hc⟩ := h hl
 exact ⟨b, o, e, by omega, hc⟩
theorem Ops.at_ {W : World} {B : Nat} {A : Option Addr} {l : List Oq} (h : Ops W B A l) {k : Nat} {q : Oq} (hk : l[k]? = some q) :
 ∃ b o, A = some ⟨b, o, none⟩ ∧ W.cell? ⟨b, o + k * 4, none⟩ = some (.int .i64 q.1) ∧ W.cell? ⟨b, o + k * 4 + 1, none⟩ = some (.int .i64 q.2.1) ∧ W.cell? ⟨b, o + k * 4 + 2, none⟩ = some (.string q.2.2.1) ∧ W.cell? ⟨b, o + k * 4 + 3, none⟩ = some (.int .u64 q.2.2.2) := by
 obtain ⟨b, o, e, _, hc⟩ := h (by rintro rfl; simp at hk)
 exact ⟨b, o, e, hc k q hk⟩
def At4 (W : World) (b i : Nat) (q : Oq) : Prop := W.cell? ⟨b, i, none⟩ = some (.int .i64 q.1) ∧ W.cell? ⟨b, i + 1, none⟩ = some (.int .i64 q.2.1) ∧ W.cell? ⟨b, i + 2, none⟩ = some (.string q.2.2.1) ∧ W.cell? ⟨b, i + 3, none⟩ = some (.int .u64 q.2.2.2)
theorem At4.below {W W' : World} {B b i : Nat} {q : Oq} (h : At4 W b i q) (hB : b < B) (hb : Below B W W') : At4 W' b i q :=
 ⟨(hb.cell (p := ⟨b, i, none⟩) hB).trans h.1, (hb.cell (p := ⟨b, i + 1, none⟩) hB).trans h.2.1, (hb.cell (p := ⟨b, i + 2, none⟩) hB).trans h.2.2.1, (hb.cell (p := ⟨b, i + 3, none⟩) hB).trans h.2.2.2⟩
theorem Ops.at4 {W : World} {B : Nat} {A : Option Addr} {l : List Oq} (h : Ops W B A l) {k : Nat} {q : Oq} (hk : l[k]? = some q) :
 ∃ b o, A = some ⟨b, o, none⟩ ∧ b < B ∧ At4 W b (o + k * 4) q := by
 obtain ⟨b, o, e, hb, hc⟩ := h (by rintro rfl; simp at hk)
 exact ⟨b, o, e, hb, hc k q hk⟩
def OFit (q : Oq) : Prop := Int64 q.1 ∧ Int64 q.2.1 ∧ q.2.2.1.size ≤ maxLen ∧ q.2.2.2 < 18446744073709551616
def OFits (l : List Oq) : Prop := ∀ q ∈ l, OFit q
section
variable {H : Type} {enc : TypeId × Value → H} {W : World} {d : DataW H} {p : List MemPlace} {a0 : Option Addr} {len cap : Nat}
theorem op_parts {n : Nat} {v0 v1 v2 v3 : Value} {y0 y1 y2 y3 : DataW H × List MemPlace} (h0 : DataW.trod enc Tryz.prog W 0 (fun _ => true) true n 3 [v0] = some y0) (h1 : DataW.trod enc Tryz.prog W 0 (fun _ => true) true n 3 [v1] = some y1)
 (h2 : DataW.trod enc Tryz.prog W 0 (fun _ => true) true n 9 [v2] = some y2) (h3 : DataW.trod enc Tryz.prog W 0 (fun _ => true) true n 38 [v3] = some y3) :
 ∃ q : Oq, v0 = .int .i64 q.1 ∧ v1 = .int .i64 q.2.1 ∧ v2 = .string q.2.2.1 ∧ v3 = .int .u64 q.2.2.2 ∧ OFit q := by
 obtain ⟨k0, e0, _, w0⟩ := DataW.trod_int Tryz.underlying3 h0
 obtain ⟨k1, e1, _, w1⟩ := DataW.trod_int Tryz.underlying3 h1
 obtain ⟨s2, e2, _, w2⟩ := DataW.trod_string Tryz.underlying9 h2
 obtain ⟨k3, e3, _, w3⟩ := DataW.trod_int Tryz.underlying38 h3
 simp at e0 e1 e2 e3
 have b0 := bounds_i64 w0
 have b1 := bounds_i64 w1
 have b3 := bounds_u64 w3
 refine ⟨(k0, k1, s2, k3.toNat), e0, e1, e2, ?_, b0, b1, w2, ?_⟩
 ·rw [e3]
  show _ = Value.int .u64 ((k3.toNat : Nat) : Int)
  rw [Int.toNat_of_nonneg b3.1]
 ·show k3.toNat < _
  omega
set_option maxRecDepth 100000 in
theorem open_ops (h : DataW.Trod enc Tryz.prog W 0 (fun _ => true) true 22 (.slice a0 len cap) d p) :
 ∃ l : List Oq, l.length = len ∧ OFits l ∧ Ops W W.heap.size a0 l := by
 obtain ⟨fuel, hf⟩ := h
 rcases open_slice Tryz.underlying22 hf with ⟨hcs, _⟩ | ⟨x, l, c, m, n, D, Pl, hcs, _, hl, hm, hmm, _, hc⟩
 ·simp [Value.cells] at hcs
  obtain ⟨rfl, rfl, rfl⟩ := hcs
  exact ⟨[], rfl, fun q hq => (by cases hq), fun hl => absurd rfl hl⟩
 ·simp [Value.cells] at hcs
  obtain ⟨rfl, rfl, rfl⟩ := hcs
  have hmc : m = cap := by simpa using hmm
  subst hmc
  have ce : Tryz.prog.cellsOf 40 = 4 := by kernel_rfl
  have each : ∀ i, i < m → ∃ q : Oq, W.cell? (x.add (i * 4)) = some (.int .i64 q.1) ∧ W.cell? (x.add (i * 4 + 1)) = some (.int .i64 q.2.1) ∧ W.cell? (x.add (i * 4 + 2)) = some (.string q.2.2.1) ∧ W.cell? (x.add (i * 4 + 3)) = some (.int .u64 q.2.2.2) ∧ OFit q := fun i hi => by
   obtain ⟨cs', g1, g2⟩ := hc i hi
   rw [ce] at g1
   obtain ⟨_, hlen, hcell⟩ := World.cells?_some g1
   obtain ⟨y0, y1, y2, y3, k, _, _, t0, t1, t2, t3⟩ := trod_struct4 Tryz.underlying40 g2
   match cs', hlen with
   | [v0, v1, v2, v3], _ =>
     have c1 : Tryz.prog.cellsOf 3 = 1 := by kernel_rfl
     have c2 : Tryz.prog.cellsOf 9 = 1 := by kernel_rfl
     have c3 : Tryz.prog.cellsOf 38 = 1 := by kernel_rfl
     simp [c1, c2, c3] at t0 t1 t2 t3
     obtain ⟨q, rfl, rfl, rfl, rfl, hfq⟩ := op_parts t0 t1 t2 t3
     have e0 := hcell 0 (by omega)
     have e1 := hcell 1 (by omega)
     have e2 := hcell 2 (by omega)
     have e3 := hcell 3 (by omega)
     rw [Addr.add_add] at e0 e1 e2 e3
     exact ⟨q, by simpa using e0, by simpa using e1, by simpa using e2, by simpa using e3, hfq⟩
  obtain ⟨q, hq⟩ := choose_lt each
  refine ⟨(List.range len).map q, by simp, fun x hx => ?_, fun hpos => ?_⟩
  ·obtain ⟨i, hi, rfl⟩ := List.mem_map.1 hx
   have hi' := List.mem_range.1 hi
   exact (hq i (by omega)).2.2.2.2
  ·have hlp : 0 < len := by
    rcases Nat.eq_zero_or_pos len with h0 | h0
    ·exact absurd (by rw [h0]; rfl) hpos
    ·exact h0
   obtain ⟨b, o, sp⟩ := x
   have hsp : sp = none := by
    have := World.cell?_spot (hq 0 (by omega)).2.1
    simpa [Addr.add] using World.cell?_spot (hq 0 (by omega)).1
   subst hsp
   have hb : b < W.heap.size := by
    have := (hq 0 (by omega)).1
    rw [Addr.add_lit] at this
    exact World.block_lt_of_cell? W ⟨b, _, none⟩ this
   refine ⟨b, o, rfl, hb, fun i x hi => ?_⟩
   have hil : i < len := by
    have := (List.getElem?_eq_some_iff.1 hi).1
    simpa using this
   have hx : q i = x := by simpa [hil] using hi
   subst hx
   obtain ⟨c0, c1, c2, c3, _⟩ := hq i (by omega)
   rw [Addr.add_lit] at c0 c1 c2 c3
   exact ⟨c0, by rw [Nat.add_assoc]; exact c1, by rw [Nat.add_assoc]; exact c2, by rw [Nat.add_assoc]; exact c3⟩
end
def Shorts (l : List Oq) : Prop := ∀ q ∈ l, q.2.2.1.size ≤ 100
def Few (l : List Oq) : Prop := l.length ≤ 80 ∧ Shorts l
def FewR (p : Prop) (r : Ending) : Prop := ∃ b : Bool, r = .returned (.bool b) ∧ (b = true ↔ p)
theorem few_long (A : Option Addr) (n c : Nat) (w : World) (hn : 80 < n) :
 Calls Tryz.prog 7 #[.slice A n c] w fun r w' => r = .returned (.bool false) ∧ w = w' := by
 go_enter Tryz.func7, Tryz.ntmps7
 go_wp2
 go_ret
 exact ⟨rfl, rfl⟩
set_option maxHeartbeats 1000000 in
theorem few_short (A : Option Addr) (n c : Nat) (l : List Oq) (w : World) (hl : l.length = n) (hn : n ≤ 80) (hp : Ops w w.heap.size A l) (hf : OFits l) :
 Calls Tryz.prog 7 #[.slice A n c] w fun r w' => FewR (Shorts l) r ∧ w = w' := by
 have Hl := hide hl
 have Hp := hide hp
 have Hf := hide hf
 clear hl hp hf
 go_enter Tryz.func7, Tryz.ntmps7
 go_wp2_with fail
 go_loop [9] (fun i => ∃ k : Nat, k ≤ n ∧ i = .int .i64 k ∧ Hid (∀ q ∈ l.take k, q.2.2.1.size ≤ 100)) (fun i => n - (intOf i).toNat)
 case atStart => exact ⟨0, Nat.zero_le _, rfl, by simp [Hid]⟩
 case round =>
  obtain ⟨k, hk, rfl, hq⟩ := hrel
  rcases Nat.lt_or_ge k n with hlt | hge
  ·obtain ⟨q, hqk⟩ : ∃ q, l[k]? = some q := ⟨_, List.getElem?_eq_getElem (by rw [Hl.out]; exact hlt)⟩
   obtain ⟨b, o, rfl, _, _, hc0, _⟩ := Hp.out.at_ hqk
   have hmem : q ∈ l := List.mem_of_getElem? hqk
   have hqm := (Hf.out q hmem).2.2.1
   have Hqk := hide hqk
   have Hmem := hide hmem
   clear hqk hmem
   by_cases hsz : ¬ q.2.2.1.size ≤ 100
   ·go_wp2
    go_ret
    exact ⟨⟨false, rfl, by simp only [Bool.false_eq_true, false_iff]; exact fun h => hsz (h q Hmem.out)⟩, rfl⟩
   ·go_wp2
    go_round
    case rel =>
     refine ⟨k + 1, by omega, by go_num, ?_⟩
     show ∀ x ∈ l.take (k + 1), x.2.2.1.size ≤ 100
     rw [take_snoc l k q Hqk.out]
     intro x hx
     rcases List.mem_append.1 hx with hx | hx
     ·exact hq.out x hx
     ·rw [List.mem_singleton.1 hx]; omega
    case measure => simp [intOf]; omega
  ·have hq' := hq.out
   rw [List.take_of_length_le (by rw [Hl.out]; omega)] at hq'
   have HQ := hide hq'
   clear hq' hq
   go_wp2
   go_ret
   exact ⟨⟨true, rfl, by simp only [true_iff]; exact HQ.out⟩, rfl⟩
theorem few_any (A : Option Addr) (n c : Nat) (l : List Oq) (w : World) (hl : l.length = n) (hp : Ops w w.heap.size A l) (hf : OFits l) :
 Calls Tryz.prog 7 #[.slice A n c] w fun r w' => FewR (Few l) r ∧ w = w' := by
 rcases Nat.lt_or_ge 80 n with h | h
 ·refine (few_long A n c w h).mono ?_
  rintro r w' ⟨rfl, rfl⟩
  exact ⟨⟨false, rfl, by simp only [Bool.false_eq_true, false_iff]; intro h2; have := h2.1; omega⟩, rfl⟩
 ·refine (few_short A n c l w hl h hp hf).mono ?_
  rintro r w' ⟨⟨b, rfl, hb⟩, rfl⟩
  exact ⟨⟨b, rfl, hb.trans ⟨fun h2 => ⟨by omega, h2⟩, fun h2 => h2.2⟩⟩, rfl⟩
end Go.Proofs.YtapiogcoipeinaaGreatDoor.Vo
