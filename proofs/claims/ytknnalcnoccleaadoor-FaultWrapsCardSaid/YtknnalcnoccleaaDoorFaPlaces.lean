/-
  The statements' argument, a slice of places, as a list of names and numbers; what the statements' own few and made return. Nothing below is changed. Conditions: in each.
-/
import Derived.Test.YtknnalcnoccleaaDoorRows
import Derived.WalkKit
import Derived.ProofKit
import Derived.OpenShut
import Derived.ShutString
import Derived.ChangeOld
import Derived.Below
import Derived.Deep.SlicePairs
import Derived.Test.YtknnalcnoccleaaDoorFaWrap
namespace Go.Proofs.YtknnalcnoccleaaDoor.Fa
open Go.ChangeShapes Go.WideShapes Go.ChangeAt Go.RowKit Go.Deep
open Pk Sm

abbrev Pl := ByteArray × Int

/-- A slice's address leads to the places l, a name and a number each. -/
def Pls (W : World) (B : Nat) (A : Option Addr) (l : List Pl) : Prop :=
  l ≠ [] → ∃ b o, A = some ⟨b, o, none⟩ ∧ b < B ∧ ∀ j q, l[j]? = some q → W.cell? ⟨b, o + j * 2, none⟩ = some (.string q.1) ∧ W.cell? ⟨b, o + j * 2 + 1, none⟩ = some (.int .i64 q.2)
theorem Pls.below {W w' : World} {B : Nat} {A : Option Addr} {l : List Pl} (h : Pls W B A l) (hb : Below B W w') : Pls w' B A l := fun hl => by
  obtain ⟨b, o, e, hB, hc⟩ := h hl
  exact ⟨b, o, e, hB, fun i q hi => ⟨(hb.cell (p := ⟨b, o + i * 2, none⟩) hB).trans (hc i q hi).1, (hb.cell (p := ⟨b, o + i * 2 + 1, none⟩) hB).trans (hc i q hi).2⟩⟩
theorem Pls.at_ {W : World} {B : Nat} {A : Option Addr} {l : List Pl} (h : Pls W B A l) {k : Nat} {q : Pl} (hk : l[k]? = some q) :
    ∃ b o, A = some ⟨b, o, none⟩ ∧ W.cell? ⟨b, o + k * 2, none⟩ = some (.string q.1) ∧ W.cell? ⟨b, o + k * 2 + 1, none⟩ = some (.int .i64 q.2) := by
  obtain ⟨b, o, e, _, hc⟩ := h (by rintro rfl; simp at hk)
  exact ⟨b, o, e, hc k q hk⟩

/-- Every number is one of an int's, every name one of a string's. -/
def Fit (l : List Pl) : Prop := ∀ q ∈ l, q.1.size ≤ maxLen ∧ Int64 q.2

section
variable {H : Type} {enc : TypeId × Value → H} {W : World} {d : DataW H} {p : List MemPlace} {a0 : Option Addr} {len cap : Nat}
theorem open_pls (h : DataW.Trod enc Tryd.prog W 0 (fun _ => true) true 22 (.slice a0 len cap) d p) :
    ∃ l : List Pl, l.length = len ∧ len ≤ cap ∧ cap ≤ maxLen ∧ Fit l ∧ Pls W W.heap.size a0 l := by
  obtain ⟨fuel, hf⟩ := h
  rcases open_slice_pairs Tryd.underlying22 Tryd.underlying48 (by kernel_rfl) rfl rfl (by kernel_rfl) (by kernel_rfl) hf with ⟨hcs, _⟩ | ⟨x, l, c, m, n, V0, V1, D0, D1, P0, P1, hcs, _, hl, hm, hmm, _, hc⟩
  · simp [Value.cells] at hcs
    obtain ⟨rfl, rfl, rfl⟩ := hcs
    exact ⟨[], rfl, Nat.le_refl _, by unfold maxLen; omega, fun q hq => (by cases hq), fun hl => absurd rfl hl⟩
  · simp [Value.cells] at hcs
    obtain ⟨rfl, rfl, rfl⟩ := hcs
    have hmc : m = cap := by simpa using hmm
    subst hmc
    have each : ∀ i, i < m → ∃ q : Pl, V0 i = .string q.1 ∧ V1 i = .int .i64 q.2 ∧ q.1.size ≤ maxLen ∧ (Lit.int .i64 q.2).wf = true := fun i hi => by
      obtain ⟨_, _, g0, g1⟩ := hc i hi
      obtain ⟨s0, e0, _, h0⟩ := DataW.trod_string Tryd.underlying9 g0
      obtain ⟨k1, e1, _, w1⟩ := DataW.trod_int Tryd.underlying3 g1
      simp at e0 e1
      exact ⟨(s0, k1), e0, e1, h0, w1⟩
    obtain ⟨q, hq⟩ := choose_lt each
    refine ⟨(List.range len).map q, by simp, hl, hm, fun x hx => ?_, fun hpos => ?_⟩
    · obtain ⟨i, hi, rfl⟩ := List.mem_map.1 hx
      have hi' := List.mem_range.1 hi
      obtain ⟨_, _, h3, h4⟩ := hq i (by omega)
      have h5 := bounds_i64 h4
      exact ⟨h3, by unfold Int64; omega⟩
    · have hlp : 0 < len := by
        rcases Nat.eq_zero_or_pos len with h0 | h0
        · exact absurd (by rw [h0]; rfl) hpos
        · exact h0
      obtain ⟨b, o, sp⟩ := x
      have hsp : sp = none := by simpa [Addr.add] using World.cell?_spot (hc 0 (by omega)).1
      subst hsp
      have hb : b < W.heap.size := by
        have := (hc 0 (by omega)).1
        rw [Addr.add_lit] at this
        exact World.block_lt_of_cell? W ⟨b, _, none⟩ this
      refine ⟨b, o, rfl, hb, fun i x hi => ?_⟩
      have hil : i < len := by
        have := (List.getElem?_eq_some_iff.1 hi).1
        simpa using this
      have hx : q i = x := by simpa [hil] using hi
      subst hx
      obtain ⟨c0, c1, _, _⟩ := hc i (by omega)
      rw [Addr.add_lit] at c0 c1
      rw [(hq i (by omega)).1] at c0
      rw [(hq i (by omega)).2.1] at c1
      exact ⟨c0, by rw [Nat.add_assoc]; exact c1⟩
end

def Shorts (l : List Pl) : Prop := ∀ q ∈ l, q.1.size ≤ 200
/-- Places of a size that is looked at. -/
def Few (l : List Pl) : Prop := l.length ≤ 50 ∧ ∀ q ∈ l, q.1.size ≤ 200

/-- What few returns. -/
def FewR (p : Prop) (r : Ending) : Prop := ∃ b : Bool, r = .returned (.bool b) ∧ (b = true ↔ p)

theorem few_long (A : Option Addr) (n c : Nat) (w : World) (hn : 50 < n) :
    Calls Tryd.prog 10 #[.slice A n c] w fun r w' => r = .returned (.bool false) ∧ w' = w := by
  go_enter Tryd.func10, Tryd.ntmps10
  go_wp2
  go_ret
  exact ⟨rfl, rfl⟩

set_option maxHeartbeats 1000000 in
theorem few_short (A : Option Addr) (n c : Nat) (l : List Pl) (w : World) (hl : l.length = n) (hn : n ≤ 50) (hp : Pls w w.heap.size A l) (hf : Fit l) :
    Calls Tryd.prog 10 #[.slice A n c] w fun r w' => FewR (Shorts l) r ∧ w' = w := by
  have Hl := hide hl
  have Hp := hide hp
  have Hf := hide hf
  clear hl hp hf
  go_enter Tryd.func10, Tryd.ntmps10
  go_wp2_with fail
  go_loop [9] (fun i => ∃ k : Nat, k ≤ n ∧ i = .int .i64 k ∧ Hid (∀ q ∈ l.take k, q.1.size ≤ 200)) (fun i => n - (intOf i).toNat)
  case atStart => exact ⟨0, Nat.zero_le _, rfl, by simp [Hid]⟩
  case round =>
    obtain ⟨k, hk, rfl, hq⟩ := hrel
    rcases Nat.lt_or_ge k n with hlt | hge
    · obtain ⟨q, hqk⟩ : ∃ q, l[k]? = some q := ⟨_, List.getElem?_eq_getElem (by rw [Hl.out]; exact hlt)⟩
      obtain ⟨b, o, rfl, hc0, _⟩ := Hp.out.at_ hqk
      have hmem : q ∈ l := List.mem_of_getElem? hqk
      have hqm := (Hf.out q hmem).1
      have Hqk := hide hqk
      have Hmem := hide hmem
      clear hqk hmem
      by_cases hsz : ¬ q.1.size ≤ 200
      · go_wp2
        go_ret
        exact ⟨⟨false, rfl, by simp only [Bool.false_eq_true, false_iff]; exact fun h => hsz (h q Hmem.out)⟩, rfl⟩
      · go_wp2
        go_round
        case rel =>
          refine ⟨k + 1, by omega, by go_num, ?_⟩
          show ∀ x ∈ l.take (k + 1), x.1.size ≤ 200
          rw [take_snoc l k q Hqk.out]
          intro x hx
          rcases List.mem_append.1 hx with hx | hx
          · exact hq.out x hx
          · rw [List.mem_singleton.1 hx]; omega
        case measure => simp [intOf]; omega
    · have hq' := hq.out
      rw [List.take_of_length_le (by rw [Hl.out]; omega)] at hq'
      have HQ := hide hq'
      clear hq' hq
      go_wp2
      go_ret
      exact ⟨⟨true, rfl, by simp only [true_iff]; exact HQ.out⟩, rfl⟩

theorem few_any (A : Option Addr) (n c : Nat) (l : List Pl) (w : World) (hl : l.length = n) (hp : Pls w w.heap.size A l) (hf : Fit l) :
    Calls Tryd.prog 10 #[.slice A n c] w fun r w' => FewR (Few l) r ∧ w' = w := by
  rcases Nat.lt_or_ge 50 n with h | h
  · refine (few_long A n c w h).mono ?_
    rintro r w' ⟨rfl, rfl⟩
    exact ⟨⟨false, rfl, by simp only [Bool.false_eq_true, false_iff]; intro h2; have := h2.1; omega⟩, rfl⟩
  · refine (few_short A n c l w hl h hp hf).mono ?_
    rintro r w' ⟨⟨b, rfl, hb⟩, rfl⟩
    exact ⟨⟨b, rfl, hb.trans ⟨fun h2 => ⟨by omega, h2⟩, fun h2 => h2.2⟩⟩, rfl⟩

end Go.Proofs.YtknnalcnoccleaaDoor.Fa
