/-
  The contracts of record.within, record.Right, record.failed and of the statements' own few. Nothing that was there is changed. Conditions: in each.
-/
import Derived.Test.YteneacmdfehfnaaDoorRcRgt
import Derived.Test.YteneacmdfehfnaaDoorFaWrapB
namespace Go.Proofs.YteneacmdfehfnaaDoor.Rc
open Go.RowKit
open Pk Sm Fa

/-- A Boolean that says whether p. -/
def Say (p : Prop) (r : Ending) : Prop := ∃ b : Bool, r = .returned (.bool b) ∧ (b = true ↔ p)
/-- A record by value. -/
abbrev rec5 (s k b : Int) (d : ByteArray) (m : Int) : Value := .agg #[.int .i64 s, .int .i64 k, .int .i64 b, .string d, .int .i64 m]

theorem within_yes (n a b : Int) (w : World) (h1 : a ≤ n) (h2 : n ≤ b) :
    Calls Tryd.prog 36 #[.int .i64 n, .int .i64 a, .int .i64 b] w fun r w' => r = .returned (.bool true) ∧ w = w' := by
  go_enter Tryd.func36, Tryd.ntmps36
  go_wp2
  go_ret
  exact ⟨rfl, rfl⟩
theorem within_low (n a b : Int) (w : World) (h1 : n < a) :
    Calls Tryd.prog 36 #[.int .i64 n, .int .i64 a, .int .i64 b] w fun r w' => r = .returned (.bool false) ∧ w = w' := by
  go_enter Tryd.func36, Tryd.ntmps36
  go_wp2
  go_ret
  exact ⟨rfl, rfl⟩
theorem within_high (n a b : Int) (w : World) (h1 : a ≤ n) (h2 : ¬ n ≤ b) :
    Calls Tryd.prog 36 #[.int .i64 n, .int .i64 a, .int .i64 b] w fun r w' => r = .returned (.bool false) ∧ w = w' := by
  go_enter Tryd.func36, Tryd.ntmps36
  go_wp2
  go_ret
  exact ⟨rfl, rfl⟩
theorem within_any (n a b : Int) (w : World) :
    Calls Tryd.prog 36 #[.int .i64 n, .int .i64 a, .int .i64 b] w fun r w' => Say (a ≤ n ∧ n ≤ b) r ∧ w = w' := by
  rcases (by omega : n < a ∨ a ≤ n) with h | h
  · refine (within_low n a b w h).mono ?_
    rintro r w' ⟨rfl, rfl⟩
    exact ⟨⟨false, rfl, by simp only [Bool.false_eq_true, false_iff]; omega⟩, rfl⟩
  · rcases (by omega : ¬ n ≤ b ∨ n ≤ b) with h2 | h2
    · refine (within_high n a b w h h2).mono ?_
      rintro r w' ⟨rfl, rfl⟩
      exact ⟨⟨false, rfl, by simp only [Bool.false_eq_true, false_iff]; omega⟩, rfl⟩
    · refine (within_yes n a b w h h2).mono ?_
      rintro r w' ⟨rfl, rfl⟩
      exact ⟨⟨true, rfl, by simp only [true_iff]; omega⟩, rfl⟩

/-- "record" -/
abbrev nam : ByteArray := ⟨#[114, 101, 99, 111, 114, 100]⟩
/-- What failed returns, in memory. -/
def Flt1 (w : World) (v : Value) (s e : Int) : Prop := ∃ p, v = .iface 64 (.pointer (some ⟨p, 0, none⟩)) ∧ Chain w [(p, nam, s)] v (.iface 48 (.int .i64 e))
theorem Flt1.below {w w' : World} {v : Value} {s e : Int} (h : Flt1 w v s e) {B : Nat} (hB : w.heap.size ≤ B) (hb : Below B w w') : Flt1 w' v s e := by
  obtain ⟨p, rfl, hc⟩ := h
  exact ⟨p, rfl, hc.below hB hb⟩

/-- The block that a boxed record is. -/
theorem box_below (w : World) (s k b : Int) (d : ByteArray) (m : Int) : Below w.heap.size w (w.alloc (.cells #[.int .i64 s, .int .i64 k, .int .i64 b, .string d, .int .i64 m] 30)) := (Below.refl _ _).alloc (Nat.le_refl _) _

/-- What Right looks at once its limits are known. -/
theorem say_and4 {p1 p2 p3 p4 : Prop} {b1 b2 b3 b4 : Bool} (h1 : b1 = true ↔ p1) (h2 : b2 = true ↔ p2) (h3 : b3 = true ↔ p3) (h4 : b4 = true ↔ p4) : (b1 && b2 && b3 && b4) = true ↔ p1 ∧ p2 ∧ p3 ∧ p4 := by
  simp only [Bool.and_eq_true, h1, h2, h3, h4, and_assoc]

set_option maxRecDepth 100000 in
set_option maxHeartbeats 1000000 in
theorem Right_other (s k b : Int) (d : ByteArray) (m : Int) (w : World) (h1 : (k == 1) = false) (h2 : (k == 2) = false) :
    Calls Tryd.prog 28 #[rec5 s k b d m] w fun r w' => r = .returned (.bool false) ∧ Below w.heap.size w w' := by
  have HB := hide (box_below w s k b d m)
  go_enter Tryd.func28, Tryd.ntmps28
  go_wp2
  go_ret
  exact ⟨rfl, HB.out⟩

set_option maxRecDepth 100000 in
set_option maxHeartbeats 1000000 in
theorem Right_write (s b : Int) (d : ByteArray) (m : Int) (w : World) (hd : d.size ≤ 9223372036854775807) :
    Calls Tryd.prog 28 #[rec5 s 1 b d m] w fun r w' => Say ((1 ≤ s ∧ s ≤ 1152921504606846975) ∧ (0 ≤ b ∧ b ≤ 7) ∧ d.size ≤ 16 ∧ (0 ≤ m ∧ m ≤ 0)) r ∧ Below w.heap.size w w' := by
  have HB := hide (box_below w s 1 b d m)
  go_enter Tryd.func28, Tryd.ntmps28
  go_wp2_with fail
  refine (within_any s 1 1152921504606846975 _).mono ?_
  rintro r w' ⟨⟨B1, rfl, hB1⟩, rfl⟩
  have H1 := hide hB1
  clear hB1
  cases B1 with
  | false =>
    go_wp2
    go_ret
    exact ⟨⟨false, rfl, by have := H1.out; simp only [Bool.false_eq_true, false_iff] at this ⊢; exact fun h => this h.1⟩, HB.out⟩
  | true =>
    go_wp2_with fail
    refine (within_any b 0 7 _).mono ?_
    rintro r w' ⟨⟨B2, rfl, hB2⟩, rfl⟩
    have H2 := hide hB2
    clear hB2
    cases B2 with
    | false =>
      go_wp2
      go_ret
      exact ⟨⟨false, rfl, by have := H2.out; simp only [Bool.false_eq_true, false_iff] at this ⊢; exact fun h => this h.2.1⟩, HB.out⟩
    | true =>
      rcases Nat.lt_or_ge 16 d.size with h3 | h3
      · go_wp2
        go_ret
        exact ⟨⟨false, rfl, by simp only [Bool.false_eq_true, false_iff]; exact fun h => absurd h.2.2.1 (by omega)⟩, HB.out⟩
      · go_wp2_with fail
        refine (within_any m 0 0 _).mono ?_
        rintro r w' ⟨⟨B4, rfl, hB4⟩, rfl⟩
        have H4 := hide hB4
        clear hB4
        go_wp2
        go_ret
        exact ⟨⟨B4, rfl, by
          have a1 := H1.out
          have a2 := H2.out
          have a4 := H4.out
          simp only [true_iff] at a1 a2
          rw [a4]
          exact ⟨fun h => ⟨a1, a2, h3, h⟩, fun h => h.2.2.2⟩⟩, HB.out⟩

set_option maxRecDepth 100000 in
set_option maxHeartbeats 1000000 in
theorem Right_mark (s b : Int) (d : ByteArray) (m : Int) (w : World) (hd : d.size ≤ 9223372036854775807) :
    Calls Tryd.prog 28 #[rec5 s 2 b d m] w fun r w' => Say (Rgt s 2 b d.size m) r ∧ Below w.heap.size w w' := by
  have HB := hide (box_below w s 2 b d m)
  go_enter Tryd.func28, Tryd.ntmps28
  go_wp2_with fail
  refine (within_any s 1 1152921504606846975 _).mono ?_
  rintro r w' ⟨⟨B1, rfl, hB1⟩, rfl⟩
  have H1 := hide hB1
  clear hB1
  cases B1 with
  | false =>
    go_wp2
    go_ret
    exact ⟨⟨false, rfl, by have := H1.out; simp only [Bool.false_eq_true, false_iff] at this ⊢; unfold Rgt; omega⟩, HB.out⟩
  | true =>
    go_wp2_with fail
    refine (within_any b 0 0 _).mono ?_
    rintro r w' ⟨⟨B2, rfl, hB2⟩, rfl⟩
    have H2 := hide hB2
    clear hB2
    cases B2 with
    | false =>
      go_wp2
      go_ret
      exact ⟨⟨false, rfl, by have := H2.out; simp only [Bool.false_eq_true, false_iff] at this ⊢; unfold Rgt; omega⟩, HB.out⟩
    | true =>
      rcases Nat.lt_or_ge 0 d.size with h3 | h3
      · have hne : (d.size : Int) = ((d.size - 1 : Nat) : Int) + 1 := by omega
        generalize d.size - 1 = q at hne
        have Hd := hide h3
        clear h3 hd
        go_wp2
        go_ret
        exact ⟨⟨false, rfl, by simp only [Bool.false_eq_true, false_iff]; have := Hd.out; unfold Rgt; omega⟩, HB.out⟩
      · obtain rfl : d = ByteArray.empty := by
          have h0 : d.data.toList = [] := List.eq_nil_of_length_eq_zero (by rw [size_eq]; omega)
          rw [← str_of d, h0]
          rfl
        go_wp2_with fail
        refine (within_any m 1 1152921504606846975 _).mono ?_
        rintro r w' ⟨⟨B4, rfl, hB4⟩, rfl⟩
        have H4 := hide hB4
        clear hB4
        go_wp2
        go_ret
        exact ⟨⟨B4, rfl, by
          have a1 := H1.out
          have a2 := H2.out
          have a4 := H4.out
          simp only [true_iff] at a1 a2
          rw [a4]
          show _ ↔ Rgt s 2 b 0 m
          unfold Rgt
          omega⟩, HB.out⟩

/-- Right, for every record. -/
theorem Right_any (s k b : Int) (d : ByteArray) (m : Int) (w : World) (hd : d.size ≤ 9223372036854775807) :
    Calls Tryd.prog 28 #[rec5 s k b d m] w fun r w' => Say (Rgt s k b d.size m) r ∧ Below w.heap.size w w' := by
  by_cases h1 : k = 1
  · subst h1
    refine (Right_write s b d m w hd).mono ?_
    rintro r w' ⟨⟨B, rfl, hB⟩, hb⟩
    refine ⟨⟨B, rfl, hB.trans ?_⟩, hb⟩
    unfold Rgt
    omega
  · by_cases h2 : k = 2
    · subst h2
      exact Right_mark s b d m w hd
    · refine (Right_other s k b d m w (by simpa using h1) (by simpa using h2)).mono ?_
      rintro r w' ⟨rfl, hb⟩
      refine ⟨⟨false, rfl, ?_⟩, hb⟩
      simp only [Bool.false_eq_true, false_iff]
      unfold Rgt
      omega

end Go.Proofs.YteneacmdfehfnaaDoor.Rc
