/-
  The contracts of disk's Len, Loose, has, failed, and of Write and Read where they refuse; of New. Nothing that was there is changed.
-/
import Derived.Test.YtnmpckhlpkmojaaGreatDoorDkMem
import Derived.Test.YtnmpckhlpkmojaaGreatDoorFaWrapB
namespace Go.Proofs.YtnmpckhlpkmojaaGreatDoor.Dk
open Go.RowKit
open Pk Sm Fa

theorem Len_nil (w : World) : Calls Tryz.prog 28 #[.pointer none] w fun r w' => r = .returned (.int .i64 0) ∧ w = w' := by
  go_enter Tryz.func28, Tryz.ntmps28
  go_wp2
  go_ret
  exact ⟨rfl, rfl⟩
theorem Loose_nil (w : World) : Calls Tryz.prog 45 #[.pointer none] w fun r w' => r = .returned (.int .i64 0) ∧ w = w' := by
  go_enter Tryz.func45, Tryz.ntmps45
  go_wp2
  go_ret
  exact ⟨rfl, rfl⟩
theorem Len_at (p n c : Nat) (A : Option Addr) (X : Value) (w : World) (hp : w.heap[p]? = some (.cells #[.slice A n c, X] 66 (0, 0))) :
    Calls Tryz.prog 28 #[.pointer (some ⟨p, 0, none⟩)] w fun r w' => r = .returned (.int .i64 n) ∧ w = w' := by
  have hc : w.cell? ⟨p, 0, none⟩ = some (.slice A n c) := by simp [World.cell?, hp]
  clear hp
  go_enter Tryz.func28, Tryz.ntmps28
  go_wp2
  go_ret
  exact ⟨rfl, rfl⟩
theorem Loose_at (p n c : Nat) (A : Option Addr) (X : Value) (w : World) (hp : w.heap[p]? = some (.cells #[X, .slice A n c] 66 (0, 0))) :
    Calls Tryz.prog 45 #[.pointer (some ⟨p, 0, none⟩)] w fun r w' => r = .returned (.int .i64 n) ∧ w = w' := by
  have hc : w.cell? ⟨p, 1, none⟩ = some (.slice A n c) := by simp [World.cell?, hp]
  clear hp
  go_enter Tryz.func45, Tryz.ntmps45
  go_wp2
  go_ret
  exact ⟨rfl, rfl⟩

section
variable {w : World} {G : Nat → Prop} {p : Nat} {S : List Sec} {L : List Wr}
theorem Len_any (h : Dsk w G p S L) : Calls Tryz.prog 28 #[.pointer (some ⟨p, 0, none⟩)] w fun r w' => r = .returned (.int .i64 S.length) ∧ w = w' := by
  obtain ⟨F, X, h1, h2, h3, _⟩ := h
  obtain ⟨A, c, rfl, _⟩ := row_form h2
  exact Len_at p _ c A X w h1
theorem Loose_any (h : Dsk w G p S L) : Calls Tryz.prog 45 #[.pointer (some ⟨p, 0, none⟩)] w fun r w' => r = .returned (.int .i64 L.length) ∧ w = w' := by
  obtain ⟨F, X, h1, h2, h3, _⟩ := h
  obtain ⟨A, c, rfl, _⟩ := row_form h3
  exact Loose_at p _ c A F w h1
end

/-- Whatever tells its length n. -/
def Lens (w : World) (r : Value) (n : Nat) : Prop := Calls Tryz.prog 28 #[r] w fun e w' => e = .returned (.int .i64 n) ∧ w = w'

theorem has_neg (r : Value) (i : Int) (w : World) (hi : i < 0) :
    Calls Tryz.prog 46 #[r, .int .i64 i] w fun e w' => e = .returned (.bool false) ∧ w = w' := by
  go_enter Tryz.func46, Tryz.ntmps46
  go_wp2
  go_ret
  exact ⟨rfl, rfl⟩
theorem has_pos (r : Value) (i : Int) (n : Nat) (w : World) (hl : Lens w r n) (hi : 0 ≤ i) :
    Calls Tryz.prog 46 #[r, .int .i64 i] w fun e w' => e = .returned (.bool (decide (i < (n : Int)))) ∧ w = w' := by
  have Hl := hide hl
  clear hl
  go_enter Tryz.func46, Tryz.ntmps46
  go_wp2_with fail
  refine Hl.out.mono ?_
  rintro e w' ⟨rfl, rfl⟩
  go_wp2
  go_ret
  exact ⟨rfl, rfl⟩
theorem has_yes (r : Value) (i : Int) (n : Nat) (w : World) (hl : Lens w r n) (hi : 0 ≤ i) (hn : i < (n : Int)) :
    Calls Tryz.prog 46 #[r, .int .i64 i] w fun e w' => e = .returned (.bool true) ∧ w = w' := by
  have := has_pos r i n w hl hi
  rw [decide_eq_true hn] at this
  exact this
theorem has_no (r : Value) (i : Int) (n : Nat) (w : World) (hl : Lens w r n) (hn : ¬ (0 ≤ i ∧ i < (n : Int))) :
    Calls Tryz.prog 46 #[r, .int .i64 i] w fun e w' => e = .returned (.bool false) ∧ w = w' := by
  by_cases hi : 0 ≤ i
  · have := has_pos r i n w hl hi
    rw [decide_eq_false (by omega)] at this
    exact this
  · exact has_neg r i w (by omega)

/-- The fault of a sector. -/
def flt (i k : Int) : Obj := .cells #[.string ⟨#[100, 105, 115, 107]⟩, .int .i64 i, .iface 71 (.int .i64 k)] 122
abbrev ptr (w : World) : Value := .iface 120 (.pointer (some ⟨w.heap.size, 0, none⟩))
theorem flt_chain (w : World) (i k : Int) : Chain (w.alloc (flt i k)) [(w.heap.size, ⟨#[100, 105, 115, 107]⟩, i)] (ptr w) (.iface 71 (.int .i64 k)) :=
  ⟨rfl, _, heap_alloc_new w _, rfl⟩
theorem flt_below (w : World) (i k : Int) : Below w.heap.size w (w.alloc (flt i k)) := (Below.refl _ _).alloc (Nat.le_refl _) _

theorem failed_any (i k : Int) (w : World) (hk : k ≠ 0) :
    Calls Tryz.prog 47 #[.int .i64 i, .int .i64 k] w fun e w' => e = .returned (ptr w) ∧ w' = w.alloc (flt i k) := by
  have HW := hide (Wrap_real ⟨#[100, 105, 115, 107]⟩ i (.iface 71 (.int .i64 k)) w (Real.num hk))
  go_enter Tryz.func47, Tryz.ntmps47
  go_wp2_with fail
  refine HW.out.mono ?_
  rintro e w' ⟨rfl, rfl⟩
  go_wp2
  go_ret
  exact ⟨rfl, rfl⟩

theorem Write_out (r : Value) (i : Int) (b : Value) (n : Nat) (w : World) (hl : Lens w r n) (hn : ¬ (0 ≤ i ∧ i < (n : Int))) :
    Calls Tryz.prog 25 #[r, .int .i64 i, b] w fun e w' => e = .returned (ptr w) ∧ w' = w.alloc (flt i 5) := by
  have HH := hide (has_no r i n w hl hn)
  have HF := hide (failed_any i 5 w (by decide))
  clear hl hn
  go_enter Tryz.func25, Tryz.ntmps25
  go_wp2_with fail
  refine HH.out.mono ?_
  rintro e w' ⟨rfl, rfl⟩
  go_wp2_with fail
  refine HF.out.mono ?_
  rintro e w' ⟨rfl, rfl⟩
  go_wp2
  go_ret
  exact ⟨rfl, rfl⟩

theorem Write_bad (r : Value) (i : Int) (A : Option Addr) (m c n : Nat) (w : World) (hl : Lens w r n) (hi : 0 ≤ i) (hn : i < (n : Int)) (hm : (m : Int) ≠ 64) :
    Calls Tryz.prog 25 #[r, .int .i64 i, .slice A m c] w fun e w' => e = .returned (ptr w) ∧ w' = w.alloc (flt i 1) := by
  have HH := hide (has_yes r i n w hl hi hn)
  have HF := hide (failed_any i 1 w (by decide))
  clear hl hn hi
  go_enter Tryz.func25, Tryz.ntmps25
  go_wp2_with fail
  refine HH.out.mono ?_
  rintro e w' ⟨rfl, rfl⟩
  go_wp2_with fail
  refine HF.out.mono ?_
  rintro e w' ⟨rfl, rfl⟩
  go_wp2
  go_ret
  exact ⟨rfl, rfl⟩

theorem Read_out (r : Value) (i : Int) (n : Nat) (w : World) (hl : Lens w r n) (hn : ¬ (0 ≤ i ∧ i < (n : Int))) :
    Calls Tryz.prog 44 #[r, .int .i64 i] w fun e w' => e = .returned (.tuple #[.slice none 0 0, ptr w]) ∧ w' = w.alloc (flt i 5) := by
  have HH := hide (has_no r i n w hl hn)
  have HF := hide (failed_any i 5 w (by decide))
  clear hl hn
  go_enter Tryz.func44, Tryz.ntmps44
  go_wp2_with fail
  refine HH.out.mono ?_
  rintro e w' ⟨rfl, rfl⟩
  go_wp2_with fail
  refine HF.out.mono ?_
  rintro e w' ⟨rfl, rfl⟩
  go_wp2
  go_ret2
  exact ⟨rfl, rfl⟩

end Go.Proofs.YtnmpckhlpkmojaaGreatDoor.Dk
