/-
  A journal of which only the next number and the room are told: what each call answers, and leaves. Condition: the table of half bytes holds what the program's own text lays.
-/
import Derived.Test.YtmfgcinikopgnaaDoorJnD

namespace Go.Proofs.YtmfgcinikopgnaaDoor.Jn
open Go.RowKit
open Pk Sm Fa Rc Dk

/-- The next number is nx, there is room for rm. -/
def JN (w0 : World) (p q n nx rm T : Nat) (w : World) : Prop := ∃ h E D, JS w0 (fun _ => False) p q n h E D T w ∧ h.f + E.length = nx ∧ E.length + rm = n
/-- The numbers of a row's records: the last one is nx - 1. -/
def SeqRow (w : World) (A : Option Addr) (m nx : Nat) : Prop := ∀ k, k < m → ∃ g, A = some ⟨g, 0, none⟩ ∧ g < w.heap.size ∧ w.cell? ⟨g, k * 5, none⟩ = some (.int .i64 ((nx - m + k : Nat) : Int))
section
variable {w0 w w' : World} {p q n nx rm T : Nat}
theorem JN.below (j : JN w0 p q n nx rm T w) (hb : Below w.heap.size w w') : JN w0 p q n nx rm T w' := by
  obtain ⟨h, E, D, j, h1, h2⟩ := j
  exact ⟨h, E, D, (j.below hb).1, h1, h2⟩
theorem JN.drew (j : JN w0 p q n nx rm T w) : JN w0 p q n nx rm T w.drew := j.below (Below.refl _ _).drew
theorem JN.bel (j : JN w0 p q n nx rm T w) : Below w0.heap.size w0 w := by
  obtain ⟨h, E, D, j, _⟩ := j
  exact j.bel
theorem JN.more {T' : Nat} (j : JN w0 p q n nx rm T w) (hT : T ≤ T') (hT' : T' ≤ 1000) : JN w0 p q n nx rm T' w := by
  obtain ⟨h, E, D, j, h1, h2⟩ := j
  exact ⟨h, E, D, j.more hT hT', h1, h2⟩
theorem JN.lim (j : JN w0 p q n nx rm T w) : nx ≤ 1001 ∧ rm ≤ n ∧ n ≤ 20 := by
  obtain ⟨h, E, D, j, h1, h2⟩ := j
  have l := j.lim
  have := l.f
  have := l.T
  have := l.n16
  exact ⟨by omega, by omega, by omega⟩
theorem JN.next (j : JN w0 p q n nx rm T w) : Calls Tryd.prog 18 #[.pointer (some ⟨p, 0, none⟩)] w fun e w' => e = .returned (.int .i64 (nx : Int)) ∧ Below w.heap.size w w' := by
  obtain ⟨h, E, D, j, h1, h2⟩ := j
  have := j.next
  rw [h1] at this
  exact this
theorem JN.room (j : JN w0 p q n nx rm T w) : Calls Tryd.prog 21 #[.pointer (some ⟨p, 0, none⟩)] w fun e w' => e = .returned (.int .i64 (rm : Int)) ∧ Below w.heap.size w w' := by
  obtain ⟨h, E, D, j, h1, h2⟩ := j
  have := j.room
  rw [show (n : Int) - (E.length : Int) = (rm : Int) by omega] at this
  exact this
theorem JN.append (j : JN w0 p q n nx rm T w) (ht : Tab w0) (hT : T + 1 ≤ 1000) {s k b : Int} {d : ByteArray} {m : Int} (hd : d.size ≤ 9223372036854775807) :
    Calls Tryd.prog 13 #[.pointer (some ⟨p, 0, none⟩), rec5 s k b d m] w fun e w' =>
      (∃ nx' rm' : Nat, e = .returned (.tuple #[.int .i64 (nx : Int), .nilIface]) ∧ (nx : Int) + 1 = (nx' : Int) ∧ (rm : Int) - 1 = (rm' : Int) ∧ JN w0 p q n nx' rm' (T + 1) w') ∨
      (∃ pp, e = .returned (.tuple #[.int .i64 0, .iface 84 (.pointer (some ⟨pp, 0, none⟩))]) ∧ JN w0 p q n nx rm (T + 1) w') := by
  obtain ⟨h, E, D, j, h1, h2⟩ := j
  by_cases hc : E.length < n ∧ EOk ⟨h.g, h.f + E.length, k, b, d, m⟩
  · refine (j.append ht hT hc.1 hc.2).mono ?_
    rintro e w' ⟨rfl, hj, hk⟩
    exact Or.inl ⟨nx + 1, rm - 1, by rw [h1], by omega, by omega, h, _, D, hj, by rw [List.length_append]; show _ + (_ + 1) = _; omega, by rw [List.length_append]; show _ + 1 + _ = _; omega⟩
  · have hno : E.length = n ∨ ¬ EOk ⟨h.g, h.f + E.length, k, b, d, m⟩ := by
      have := j.few.1
      by_cases hE : E.length = n
      · exact Or.inl hE
      · exact Or.inr fun h2 => hc ⟨by omega, h2⟩
    refine (j.refused hd hno).mono ?_
    rintro e w' ⟨pp, rfl, _, hb⟩
    exact Or.inr ⟨pp, rfl, h, E, D, ((j.below hb).1).more (Nat.le_succ _) hT, h1, h2⟩
theorem JN.trim (j : JN w0 p q n nx rm T w) (ht : Tab w0) (hT : T + 1 ≤ 1000) (k : Int) :
    Calls Tryd.prog 17 #[.pointer (some ⟨p, 0, none⟩), .int .i64 k] w fun e w' =>
      (∃ rm' : Nat, e = .returned .nilIface ∧ (rm : Int) + k = (rm' : Int) ∧ JN w0 p q n nx rm' (T + 1) w') ∨
      (∃ pp, e = .returned (.iface 84 (.pointer (some ⟨pp, 0, none⟩))) ∧ JN w0 p q n nx rm (T + 1) w') := by
  obtain ⟨h, E, D, j, h1, h2⟩ := j
  by_cases hb : k < 0 ∨ (E.length : Int) < k
  · refine (j.trim_bad k hb).mono ?_
    rintro e w' ⟨pp, rfl, _, hb⟩
    exact Or.inr ⟨pp, rfl, h, E, D, ((j.below hb).1).more (Nat.le_succ _) hT, h1, h2⟩
  · obtain ⟨k, rfl⟩ : ∃ m : Nat, k = (m : Int) := ⟨k.toNat, by omega⟩
    by_cases h0 : k = 0
    · subst h0
      refine (j.trim_zero).mono ?_
      rintro e w' ⟨rfl, rfl⟩
      exact Or.inl ⟨rm, rfl, by omega, h, E, D, j.more (Nat.le_succ _) hT, h1, h2⟩
    · refine (j.trim ht hT k (by omega) (by omega)).mono ?_
      rintro e w' ⟨rfl, hj, hk⟩
      exact Or.inl ⟨rm + k, rfl, by omega, _, _, _, hj, by rw [List.length_drop]; show h.f + k + _ = _; omega, by rw [List.length_drop]; omega⟩
theorem SeqRow.of {E : List Ent} {f : Nat} {A : Option Addr} (hs : SRow w A E) (hq : Seqs f E) (hn : f + E.length = nx) : SeqRow w A E.length nx := fun k hk => by
  obtain ⟨x, hx⟩ : ∃ x, E[k]? = some x := ⟨_, List.getElem?_eq_getElem hk⟩
  obtain ⟨g, e, hl, hc, _⟩ := hs.get hx
  refine ⟨g, e, hl, ?_⟩
  rw [hc, (hq.get hx).2]
  congr 3
  omega
theorem SeqRow.below {A : Option Addr} {m : Nat} (h : SeqRow w A m nx) (hb : Below w.heap.size w w') : SeqRow w' A m nx := fun k hk => by
  obtain ⟨g, e, hl, hc⟩ := h k hk
  exact ⟨g, e, Nat.lt_of_lt_of_le hl hb.size, (hb.cell (p := ⟨g, k * 5, none⟩) hl).trans hc⟩
theorem JN.records (j : JN w0 p q n nx rm T w) : Calls Tryd.prog 12 #[.pointer (some ⟨p, 0, none⟩)] w fun e w' => ∃ (A : Option Addr) (m c : Nat), e = .returned (.slice A m c) ∧ (n : Int) - (rm : Int) = (m : Int) ∧ m ≤ nx ∧ m ≤ c ∧ SeqRow w' A m nx ∧ Below w.heap.size w w' := by
  obtain ⟨h, E, D, j, h1, h2⟩ := j
  have hf := j.few.2.2
  refine (j.records).mono ?_
  rintro e w' ⟨v, rfl, hrow, hb⟩
  obtain ⟨A, c, rfl, hc1, _, hs⟩ := hrow.srow
  exact ⟨A, E.length, c, rfl, by omega, by omega, hc1, SeqRow.of hs hf h1, hb⟩
end
end Go.Proofs.YtmfgcinikopgnaaDoor.Jn
