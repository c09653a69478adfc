/-
  The contracts of a reader's methods: Read, Number, Text, Left, Err, End, fail; each tells what is returned and what the reader then has; nothing but the reader's own block is changed.
-/
import Derived.Test.YthoflpjmdhabmaaDoorPkLay
namespace Go.Proofs.YthoflpjmdhabmaaDoor.Pk
open Go.RowKit

/-- A reader's block: the bytes that are left, and what was wrong. -/
def Rd (w : World) (g : Nat) (l : List UInt8) (e : Nat) : Prop :=
  ∃ A c, w.heap[g]? = some (.cells #[.slice A l.length c, .int .i64 (e : Int)] 94 (0, 0)) ∧ l.length ≤ c ∧ c ≤ maxLen ∧ Byt w g A l

theorem blk_cell0 {w : World} {g t : Nat} {u v : Value} (h : w.heap[g]? = some (.cells #[u, v] t (0, 0))) : w.cell? ⟨g, 0, none⟩ = some u := by
  rw [cell_of_row w g 0 _ t (0, 0) h]; rfl
theorem blk_cell1 {w : World} {g t : Nat} {u v : Value} (h : w.heap[g]? = some (.cells #[u, v] t (0, 0))) : w.cell? ⟨g, 1, none⟩ = some v := by
  rw [cell_of_row w g 1 _ t (0, 0) h]; rfl
theorem blk_free {w : World} {g t : Nat} {cs : Array Value} (h : w.heap[g]? = some (.cells cs t (0, 0))) (i : Nat) : w.frozen? ⟨g, i, none⟩ = false := frozen_of_row w g i cs t h

theorem Rd.below {w w' : World} {g B : Nat} {l : List UInt8} {e : Nat} (h : Rd w g l e) (hb : Below B w w') (hg : g < B) : Rd w' g l e := by
  obtain ⟨A, c, h1, h2, h3, h4⟩ := h
  exact ⟨A, c, (hb.block g hg).trans h1, h2, h3, h4.below (hb.mono (by omega))⟩
theorem Rd.lt {w : World} {g : Nat} {l : List UInt8} {e : Nat} (h : Rd w g l e) : g < w.heap.size := by
  obtain ⟨A, c, h1, _⟩ := h
  exact (Array.getElem?_eq_some_iff.1 h1).1

/-- What one block's change leaves. -/
theorem below_of_only {w w' : World} {g B : Nat} (h : w.grownBy w' (some g)) (hB : B ≤ g) (hg : g < w.heap.size) : Below B w w' :=
  (Below.refl _ _).grown h (by omega) (fun k hk => by injection hk with hk; omega)

set_option maxHeartbeats 400000 in
theorem Read_any (A : Option Addr) (l : List UInt8) (c : Nat) (w : World) (hb : Byt w w.heap.size A l) (hl : l.length ≤ c) (hc : c ≤ maxLen) :
    Calls Tryd.prog 42 #[.slice A l.length c] w fun e w' =>
      e = .returned (.pointer (some ⟨w.heap.size, 0, none⟩)) ∧ Rd w' w.heap.size l 0 ∧ Below w.heap.size w w' := by
  go_enter Tryd.func42, Tryd.ntmps42
  go_wp2
  go_ret
  refine ⟨rfl, ⟨A, c, heap_alloc_new w _, hl, hc, hb.below ((Below.refl _ _).alloc (Nat.le_refl _) _)⟩, (Below.refl _ _).alloc (Nat.le_refl _) _⟩

set_option maxHeartbeats 400000 in
theorem Err_any (g e : Nat) (l : List UInt8) (w : World) (h : Rd w g l e) :
    Calls Tryd.prog 61 #[.pointer (some ⟨g, 0, none⟩)] w fun r w' => r = .returned (.int .i64 (e : Int)) ∧ w = w' := by
  obtain ⟨A, c, h1, h2, h3, h4⟩ := h
  have hc1 := blk_cell1 h1
  clear h1 h4
  go_enter Tryd.func61, Tryd.ntmps61
  go_wp2
  go_ret
  exact ⟨rfl, rfl⟩

set_option maxHeartbeats 400000 in
theorem Left_any (g e : Nat) (l : List UInt8) (w : World) (h : Rd w g l e) :
    Calls Tryd.prog 64 #[.pointer (some ⟨g, 0, none⟩)] w fun r w' => r = .returned (.int .i64 (l.length : Int)) ∧ w = w' := by
  obtain ⟨A, c, h1, h2, h3, h4⟩ := h
  have hc0 := blk_cell0 h1
  clear h1 h4
  go_enter Tryd.func64, Tryd.ntmps64
  go_wp2
  go_ret
  exact ⟨rfl, rfl⟩

set_option maxHeartbeats 400000 in
theorem fail_any (g e e' : Nat) (l : List UInt8) (w : World) (h : Rd w g l e) :
    Calls Tryd.prog 63 #[.pointer (some ⟨g, 0, none⟩), .int .i64 (e' : Int)] w fun r w' => r = .returned (.tuple #[]) ∧ Rd w' g [] e' ∧ w.grownBy w' (some g) := by
  obtain ⟨A, c, h1, h2, h3, h4⟩ := h
  have hc0 := blk_cell0 h1
  have hc1 := blk_cell1 h1
  have hf0 := blk_free h1 0
  have hf1 := blk_free h1 1
  have R1 := heap_setCell_same w g 0 _ _ (.slice none 0 0) h1
  have R2 := heap_setCell_same (w.setCell ⟨g, 0, none⟩ (.slice none 0 0)) g 1 _ _ (.int .i64 (e' : Int)) R1
  have R3 : w.grownBy ((w.setCell ⟨g, 0, none⟩ (.slice none 0 0)).setCell ⟨g, 1, none⟩ (.int .i64 (e' : Int))) (some g) :=
    ⟨rfl, rfl, rfl, by simp, fun k _ hk => by
      have hne : k ≠ g := fun e => hk (by rw [e])
      rw [heap_setCell_other _ ⟨g, 1, none⟩ k _ hne, heap_setCell_other _ ⟨g, 0, none⟩ k _ hne]⟩
  have H2 := hide R2
  have H3 := hide R3
  clear h1 h4 R1 R2 R3
  go_enter Tryd.func63, Tryd.ntmps63
  go_wp2
  go_end0
  exact ⟨rfl, ⟨none, 0, H2.out, Nat.le_refl _, by unfold maxLen; omega, Byt.nil⟩, H3.out⟩

end Go.Proofs.YthoflpjmdhabmaaDoor.Pk
