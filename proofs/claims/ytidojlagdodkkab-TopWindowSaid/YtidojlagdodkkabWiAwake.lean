/-
  The contract of isobarlaw09.awake: it returns true, and changes nothing that was there.
-/
import Derived.Test.YtidojlagdodkkabWiOps2
namespace Go.Proofs.Ytidojlagdodkkab.Wi
open Go.RowKit
open Pk Dk Wn

theorem upTo_one (x : Int) : upTo [x] 0 1 = [(1, x)] := rfl
theorem box_snd {w w1 : World} (h : w1 = w.alloc (.cells #[.slice none 0 0, .int .i64 0, .int .i64 0] 26)) : Snd w.heap.size [] 0 0 w1 (· = w.heap.size) ∧ Below w.heap.size w w1 := by
  subst h
  exact ⟨Snd.fresh w, (Below.refl _ _).alloc (Nat.le_refl _) _⟩
theorem box_rcv {w w1 : World} (h : w1 = w.alloc (.cells #[.slice none 0 0] 29)) : Rcv w.heap.size [] w1 (· = w.heap.size) ∧ Below w.heap.size w w1 := by
  subst h
  exact ⟨Rcv.fresh w, (Below.refl _ _).alloc (Nat.le_refl _) _⟩
end Go.Proofs.Ytidojlagdodkkab.Wi
